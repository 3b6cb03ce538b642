import Derived.Test.YtbmondbicnfcpaaDoorZLimbA
import Derived.Test.YtbmondbicnfcpaaDoorZLimbC
import Derived.Deep.RegionHeld3
import Derived.Deep.DrawnRows
import Derived.Deep.Cut
/-
  Numbers with a sign (api.Num), as the walks want them: Good (may be), Z (its integer), Nx (a value that is taken as the integer x), IsN (a value that may be, and is x).
-/
namespace Go.Proofs.YtbmondbicnfcpaaDoor
open Go.RowKit
set_option linter.unusedVariables false

/-- A number that may be. -/
def Good (neg : Bool) (zs : List Int) : Prop := zs.length ≤ 12 ∧ Nm zs ∧ (zs = [] → neg = false)

/-- It can be told. -/
def goodDec (neg : Bool) (zs : List Int) : Decidable (Good neg zs) := inferInstanceAs (Decidable (zs.length ≤ 12 ∧ (0 < zs.length → zs.getD (zs.length - 1) 0 ≠ 0) ∧ (zs = [] → neg = false)))

/-- A sign and a size. -/
def Z (neg : Bool) (x : Int) : Int := if neg = true then -x else x

/-- What a number is taken as. -/
def val (neg : Bool) (zs : List Int) : Int := @ite Int (Good neg zs) (goodDec neg zs) (Z neg (V zs)) 0

/-- The value v is in w the sign neg and the limbs zs. -/
def Nu (w : World) (v : Value) (neg : Bool) (zs : List Int) : Prop := ∃ s, v = .agg #[.bool neg, s] ∧ Sl w s zs

/-- v is taken as x. -/
def Nx (w : World) (v : Value) (x : Int) : Prop := ∃ neg zs, Nu w v neg zs ∧ val neg zs = x

/-- v may be, and is x. -/
def IsN (w : World) (v : Value) (x : Int) : Prop := ∃ neg zs, Nu w v neg zs ∧ Good neg zs ∧ Z neg (V zs) = x

theorem Nu.below {w w' : World} {v : Value} {neg : Bool} {zs : List Int} (h : Nu w v neg zs) (hb : Below w.heap.size w w') : Nu w' v neg zs := by
  obtain ⟨s, rfl, hs⟩ := h
  exact ⟨s, rfl, hs.below hb⟩
theorem Nx.below {w w' : World} {v : Value} {x : Int} (h : Nx w v x) (hb : Below w.heap.size w w') : Nx w' v x := by
  obtain ⟨neg, zs, h1, h2⟩ := h
  exact ⟨neg, zs, h1.below hb, h2⟩
theorem IsN.below {w w' : World} {v : Value} {x : Int} (h : IsN w v x) (hb : Below w.heap.size w w') : IsN w' v x := by
  obtain ⟨neg, zs, h1, h2⟩ := h
  exact ⟨neg, zs, h1.below hb, h2⟩
theorem IsN.nx {w : World} {v : Value} {x : Int} (h : IsN w v x) : Nx w v x := by
  obtain ⟨neg, zs, h1, h2, h3⟩ := h
  exact ⟨neg, zs, h1, by unfold val; rw [if_pos h2]; exact h3⟩

theorem Good.nil : Good false [] := ⟨by simp, Nm_nil, fun _ => rfl⟩
theorem IsN.zero (w : World) : IsN w (.agg #[.bool false, .slice none 0 0]) 0 := ⟨false, [], ⟨_, rfl, Sl.nil w⟩, Good.nil, rfl⟩

set_option maxHeartbeats 1000000 in
theorem check_yes (neg : Bool) (s : Value) (zs : List Int) (w : World) (hs : Sl w s zs) (hg : Good neg zs) :
    Calls Tryd.prog 93 #[.agg #[.bool neg, s]] w fun e w' => e = .returned (.bool true) ∧ Below w.heap.size w w' := by
  obtain ⟨p, c, rfl⟩ := hs.shape
  obtain ⟨h1, h2, h3⟩ := hg
  have hb0 := (Below.refl w.heap.size w).alloc (Nat.le_refl _) (.cells #[.bool neg, .slice p zs.length c] 26)
  by_cases h0 : zs.length = 0
  · obtain rfl : zs = [] := List.eq_nil_of_length_eq_zero h0
    obtain rfl := h3 rfl
    go_enter Tryd.func93, Tryd.ntmps93
    go_wp2_with fail
    go_ret
    exact ⟨rfl, hb0⟩
  · obtain ⟨b, off, rfl, hc⟩ := (hs.below hb0).at (zs.length - 1) (by omega)
    have hx := hs.ok.getD (zs.length - 1)
    have hne := h2 (by omega)
    generalize zs.getD (zs.length - 1) 0 = t at *
    have hb : (t != 0) = true := by simpa using hne
    go_enter Tryd.func93, Tryd.ntmps93
    go_wp2_with fail
    go_ret
    exact ⟨rfl, hb0⟩

set_option maxHeartbeats 1000000 in
theorem check_no (neg : Bool) (s : Value) (zs : List Int) (w : World) (hs : Sl w s zs) (hg : ¬ Good neg zs) :
    Calls Tryd.prog 93 #[.agg #[.bool neg, s]] w fun e w' => e = .returned (.bool false) ∧ Below w.heap.size w w' := by
  obtain ⟨p, c, rfl⟩ := hs.shape
  have hb0 := (Below.refl w.heap.size w).alloc (Nat.le_refl _) (.cells #[.bool neg, .slice p zs.length c] 26)
  by_cases h0 : zs.length = 0
  · obtain rfl : zs = [] := List.eq_nil_of_length_eq_zero h0
    obtain rfl : neg = true := by
      cases neg
      · exact absurd Good.nil hg
      · rfl
    go_enter Tryd.func93, Tryd.ntmps93
    go_wp2_with fail
    go_ret
    exact ⟨rfl, hb0⟩
  · by_cases hl : zs.length ≤ 12
    · obtain ⟨b, off, rfl, hc⟩ := (hs.below hb0).at (zs.length - 1) (by omega)
      have hne : zs.getD (zs.length - 1) 0 = 0 := by
        refine Classical.byContradiction fun h => hg ⟨hl, fun _ => h, fun e => absurd (by rw [e]; rfl) h0⟩
      rw [hne] at hc
      go_enter Tryd.func93, Tryd.ntmps93
      go_wp2_with fail
      go_ret
      exact ⟨rfl, hb0⟩
    · have hlen := hs.len
      have hl' : ¬ ((zs.length : Int) - 1 < 12) := by omega
      go_enter Tryd.func93, Tryd.ntmps93
      go_wp2_with fail
      go_ret
      exact ⟨rfl, hb0⟩

/-- A box of two cells, a sign and a slice: a number of the call's own. -/
def Bx (w : World) (g : Nat) (neg : Bool) (s : Value) : Prop := w.heap[g]? = some (.cells #[.bool neg, s] 26 (0, 0)) ∧ ∃ p n c, s = .slice p n c

theorem Bx.below {w w' : World} {g B : Nat} {neg : Bool} {s : Value} (h : Bx w g neg s) (hb : Below B w w') (hg : g < B) : Bx w' g neg s := ⟨by rw [hb.block g hg]; exact h.1, h.2⟩

theorem Bx.facts {w : World} {g : Nat} {neg : Bool} {s : Value} (h : Bx w g neg s) :
    w.cell? ⟨g, 0, none⟩ = some (.bool neg) ∧ w.cell? ⟨g, 1, none⟩ = some s ∧ w.frozen? ⟨g, 0, none⟩ = false ∧ w.frozen? ⟨g, 1, none⟩ = false ∧ g < w.heap.size := by
  obtain ⟨h, _⟩ := h
  refine ⟨?_, ?_, ?_, ?_, (Array.getElem?_eq_some_iff.1 h).1⟩
  · simp [World.cell?, h]
  · simp [World.cell?, h]
  · simp [World.frozen?, h]
  · simp [World.frozen?, h]

theorem Bx.new (w : World) (neg : Bool) (p : Option Addr) (n c : Nat) : Bx (w.alloc (.cells #[.bool neg, .slice p n c] 26)) w.heap.size neg (.slice p n c) :=
  ⟨heap_alloc_new w _, p, n, c, rfl⟩

/-- The world behind a store of a number into its box. -/
def setBx (w : World) (g : Nat) (neg : Bool) (s : Value) : World := (w.setCell ⟨g, 0, none⟩ (.bool neg)).setCell ⟨g, 1, none⟩ s

theorem Bx.set {w : World} {g : Nat} {neg neg' : Bool} {s : Value} {p : Option Addr} {n c : Nat} (h : Bx w g neg s) : Bx (setBx w g neg' (.slice p n c)) g neg' (.slice p n c) := by
  refine ⟨?_, _, _, _, rfl⟩
  simp [setBx, World.setCell, Array.getElem?_modify, h.1]

theorem setBx_but (w : World) (g : Nat) (neg : Bool) (s : Value) : But g w (setBx w g neg s) := ((But.refl g w).setCell 0 _).setCell 1 _

theorem Bx.other {w w' : World} {g g' : Nat} {neg : Bool} {s : Value} (h : Bx w g neg s) (hb : But g' w w') (hne : g ≠ g') : Bx w' g neg s := ⟨by rw [hb.block g hne]; exact h.1, h.2⟩

/-- A slice of limbs lies in no box. -/
theorem Sl.box {w : World} {v s : Value} {zs : List Int} {g : Nat} {neg : Bool} (h : Sl w v zs) (hb : Bx w g neg s) {w' : World} (hw : But g w w') : Sl w' v zs := by
  obtain ⟨hok, a, n, cap, rfl, hl, hc, hm, hn, hp⟩ := h
  refine ⟨hok, a, n, cap, rfl, hl, hc, hm, hn, fun h0 => ?_⟩
  obtain ⟨b, off, rfl, hlt, hcell⟩ := hp h0
  refine ⟨b, off, rfl, by rw [hw.size]; exact hlt, fun i hi => ?_⟩
  have hbg : b ≠ g := by
    intro e
    subst e
    have h1 := hcell i hi
    obtain ⟨hb, p', n', c', rfl⟩ := hb
    match hoi : off + i with
    | 0 => rw [hoi] at h1; simp [World.cell?, hb] at h1
    | 1 => rw [hoi] at h1; simp [World.cell?, hb] at h1
    | k + 2 => rw [hoi] at h1; simp [World.cell?, hb] at h1
  rw [World.cell?_of_block (w := w) (a := ⟨b, off + i, none⟩) (hw.block b hbg)]
  exact hcell i hi

theorem IsN.box {w : World} {v s : Value} {x : Int} {g : Nat} {neg : Bool} (h : IsN w v x) (hb : Bx w g neg s) {w' : World} (hw : But g w w') : IsN w' v x := by
  obtain ⟨n, zs, ⟨s', rfl, hs⟩, h2⟩ := h
  exact ⟨n, zs, ⟨s', rfl, hs.box hb hw⟩, h2⟩

theorem Bx.load {w : World} {g : Nat} {neg : Bool} {s : Value} (h : Bx w g neg s) : (loadVar 26 ⟨g, 0, none⟩).run Tryd.prog w = .ok (.agg #[.bool neg, s]) w := by
  obtain ⟨c0, c1, -⟩ := h.facts
  simp [loadVar, go_sem, c0, c1]

theorem results_box1 {fn : Func} {q : Tmp} (h : fn.results = #[.cell q 26]) (tmps : Array Value) (w : World) (g : Nat) (neg : Bool) (s : Value) (hq : tmps.getD q undef = .pointer (some ⟨g, 0, none⟩)) (hb : Bx w g neg s) :
    (results fn tmps).run Tryd.prog w = .ok (.agg #[.bool neg, s]) w := by
  have hl := hb.load
  simp only [Array.getD_eq_getD_getElem?] at hq
  simp only [results, h]
  simp [hq, asAddr, hl]

theorem results_box2 {fn : Func} {q u : Tmp} (h : fn.results = #[.cell q 26, .tmp u]) (tmps : Array Value) (w : World) (g : Nat) (neg : Bool) (s : Value) (hq : tmps.getD q undef = .pointer (some ⟨g, 0, none⟩)) (hb : Bx w g neg s) :
    (results fn tmps).run Tryd.prog w = .ok (.tuple #[.agg #[.bool neg, s], tmps.getD u undef]) w := by
  have hl := hb.load
  simp only [Array.getD_eq_getD_getElem?] at hq
  simp only [results, h]
  simp [hq, asAddr, hl]

/-- A number that may be is answered: x. -/
def NPost (w : World) (x : Int) (e : Ending) (w' : World) : Prop := ∃ v, e = .returned v ∧ IsN w' v x ∧ Below w.heap.size w w'

/-- Two boxes laid one behind the other: an argument's and the result's. -/
theorem boxes1 (w : World) (neg : Bool) (p : Option Addr) (n c : Nat) :
    Below w.heap.size w ((w.alloc (.cells #[.bool neg, .slice p n c] 26)).alloc (.cells #[.bool false, .slice none 0 0] 26)) ∧
    Bx ((w.alloc (.cells #[.bool neg, .slice p n c] 26)).alloc (.cells #[.bool false, .slice none 0 0] 26)) w.heap.size neg (.slice p n c) ∧
    Bx ((w.alloc (.cells #[.bool neg, .slice p n c] 26)).alloc (.cells #[.bool false, .slice none 0 0] 26)) (w.heap.size + 1) false (.slice none 0 0) := by
  refine ⟨((Below.refl w.heap.size w).alloc (Nat.le_refl _) _).alloc (by simp) _, (Bx.new w neg p n c).below ((Below.refl _ _).alloc (Nat.le_refl _) _) (by simp), ?_⟩
  have x1 := Bx.new (w.alloc (.cells #[.bool neg, .slice p n c] 26)) false none 0 0
  rwa [World.size_alloc] at x1

/-- Three boxes: two arguments' and the result's. -/
theorem boxes2 (w : World) (neg neg2 : Bool) (p p2 : Option Addr) (n c n2 c2 : Nat) :
    Below w.heap.size w (((w.alloc (.cells #[.bool neg, .slice p n c] 26)).alloc (.cells #[.bool neg2, .slice p2 n2 c2] 26)).alloc (.cells #[.bool false, .slice none 0 0] 26)) ∧
    Bx (((w.alloc (.cells #[.bool neg, .slice p n c] 26)).alloc (.cells #[.bool neg2, .slice p2 n2 c2] 26)).alloc (.cells #[.bool false, .slice none 0 0] 26)) w.heap.size neg (.slice p n c) ∧
    Bx (((w.alloc (.cells #[.bool neg, .slice p n c] 26)).alloc (.cells #[.bool neg2, .slice p2 n2 c2] 26)).alloc (.cells #[.bool false, .slice none 0 0] 26)) (w.heap.size + 1) neg2 (.slice p2 n2 c2) ∧
    Bx (((w.alloc (.cells #[.bool neg, .slice p n c] 26)).alloc (.cells #[.bool neg2, .slice p2 n2 c2] 26)).alloc (.cells #[.bool false, .slice none 0 0] 26)) (w.heap.size + 1 + 1) false (.slice none 0 0) := by
  refine ⟨(((Below.refl w.heap.size w).alloc (Nat.le_refl _) _).alloc (by simp) _).alloc (by simp; omega) _, ((Bx.new w neg p n c).below ((Below.refl _ _).alloc (Nat.le_refl _) _) (by simp)).below ((Below.refl _ _).alloc (Nat.le_refl _) _) (by simp; omega), ?_, ?_⟩
  · have x1 := (Bx.new (w.alloc (.cells #[.bool neg, .slice p n c] 26)) neg2 p2 n2 c2).below ((Below.refl _ _).alloc (Nat.le_refl _) (.cells #[.bool false, .slice none 0 0] 26)) (by simp)
    rwa [World.size_alloc] at x1
  · have x1 := Bx.new ((w.alloc (.cells #[.bool neg, .slice p n c] 26)).alloc (.cells #[.bool neg2, .slice p2 n2 c2] 26)) false none 0 0
    rwa [World.size_alloc, World.size_alloc] at x1

set_option maxHeartbeats 1000000 in
theorem taken_any (v : Value) (x : Int) (w : World) (h : Nx w v x) : Calls Tryd.prog 50 #[v] w fun e w' => NPost w x e w' := by
  obtain ⟨neg, zs, ⟨s, rfl, hs⟩, hv⟩ := h
  obtain ⟨p, c, rfl⟩ := hs.shape
  obtain ⟨hb1, x0, x1⟩ := boxes1 w neg p zs.length c
  by_cases hg : Good neg zs
  · go_enter Tryd.func50, Tryd.ntmps50
    go_wp2_with fail
    refine (check_yes neg _ zs _ (hs.below hb1) hg).mono ?_
    rintro e w1 ⟨rfl, hb2⟩
    have y0 := x0.below hb2 (by simp; omega)
    have y1 := x1.below hb2 (by simp)
    have hbw := hb1.trans (hb2.mono (by simp; omega))
    clear hb1 hb2 x0 x1
    obtain ⟨c0, c1, f0, f1, l0⟩ := y0.facts
    obtain ⟨d0, d1, g0, g1, l1⟩ := y1.facts
    go_wp2_with fail
    refine bodyPost_ret (results_box1 rfl _ _ (w.heap.size + 1) neg (.slice p zs.length c) rfl y1.set) rfl ?_
    refine ⟨_, rfl, ?_, hbw.trans ((setBx_but w1 (w.heap.size + 1) neg _).below (by omega))⟩
    exact ⟨neg, zs, ⟨_, rfl, (hs.below hbw).box y1 (setBx_but w1 (w.heap.size + 1) neg _)⟩, hg, by rw [← hv, val, if_pos hg]⟩
  · go_enter Tryd.func50, Tryd.ntmps50
    go_wp2_with fail
    refine (check_no neg _ zs _ (hs.below hb1) hg).mono ?_
    rintro e w1 ⟨rfl, hb2⟩
    have y0 := x0.below hb2 (by simp; omega)
    have y1 := x1.below hb2 (by simp)
    have hbw := hb1.trans (hb2.mono (by simp; omega))
    clear hb1 hb2 x0 x1
    obtain ⟨c0, c1, f0, f1, l0⟩ := y0.facts
    obtain ⟨d0, d1, g0, g1, l1⟩ := y1.facts
    go_wp2_with fail
    refine bodyPost_ret (results_box1 rfl _ _ (w.heap.size + 1) false (.slice none 0 0) rfl y1.set) rfl ?_
    refine ⟨_, rfl, ?_, hbw.trans ((setBx_but w1 (w.heap.size + 1) false _).below (by omega))⟩
    rw [← hv, val, if_neg hg]
    exact IsN.zero _

/-- signed's answer: that sign, but of no limb none; those limbs. -/
def SgPost (w : World) (neg : Bool) (zs : List Int) (e : Ending) (w' : World) : Prop := ∃ s, e = .returned (.agg #[.bool (neg && decide (0 < zs.length)), s]) ∧ Sl w' s zs ∧ Below w.heap.size w w'

set_option maxHeartbeats 1000000 in
theorem signed_any (neg : Bool) (s : Value) (zs : List Int) (w : World) (hs : Sl w s zs) :
    Calls Tryd.prog 53 #[.bool neg, s] w fun e w' => SgPost w neg zs e w' := by
  obtain ⟨p, c, rfl⟩ := hs.shape
  have hbw := fun n : Bool => (Below.refl w.heap.size w).alloc (Nat.le_refl _) (.cells #[.bool n, .slice p zs.length c] 26)
  cases neg
  · go_enter Tryd.func53, Tryd.ntmps53
    go_wp2_with fail
    refine bodyPost_ret (results_box1 rfl _ _ w.heap.size _ _ rfl (Bx.new w _ p zs.length c)) rfl ?_
    exact ⟨_, rfl, hs.below (hbw _), hbw _⟩
  · go_enter Tryd.func53, Tryd.ntmps53
    go_wp2_with fail
    refine bodyPost_ret (results_box1 rfl _ _ w.heap.size _ _ rfl (Bx.new w _ p zs.length c)) rfl ?_
    exact ⟨_, rfl, hs.below (hbw _), hbw _⟩

/-- A number, if it has room. -/
def fitS (z : Int) : Option Int := if -(B 12) < z ∧ z < B 12 then some z else none

/-- Op's answer: the number and true; 0 and false. -/
def OpPost (w : World) (r : Option Int) (e : Ending) (w' : World) : Prop := ∃ v, e = .returned (.tuple #[v, .bool r.isSome]) ∧ IsN w' v (r.getD 0) ∧ Below w.heap.size w w'

set_option maxHeartbeats 1000000 in
theorem fit_yes (neg : Bool) (s : Value) (zs : List Int) (w : World) (hs : Sl w s zs) (hg : Good neg zs) :
    Calls Tryd.prog 51 #[.agg #[.bool neg, s]] w fun e w' => OpPost w (some (Z neg (V zs))) e w' := by
  obtain ⟨p, c, rfl⟩ := hs.shape
  obtain ⟨hb1, x0, x1⟩ := boxes1 w neg p zs.length c
  go_enter Tryd.func51, Tryd.ntmps51
  go_wp2_with fail
  refine (check_yes neg _ zs _ (hs.below hb1) hg).mono ?_
  rintro e w1 ⟨rfl, hb2⟩
  have y0 := x0.below hb2 (by simp; omega)
  have y1 := x1.below hb2 (by simp)
  have hbw := hb1.trans (hb2.mono (by simp; omega))
  clear hb1 hb2 x0 x1
  obtain ⟨c0, c1, f0, f1, l0⟩ := y0.facts
  obtain ⟨d0, d1, g0, g1, l1⟩ := y1.facts
  go_wp2_with fail
  refine bodyPost_ret (results_box2 rfl _ _ (w.heap.size + 1) neg (.slice p zs.length c) rfl y1.set) rfl ?_
  refine ⟨_, rfl, ?_, hbw.trans ((setBx_but w1 (w.heap.size + 1) neg _).below (by omega))⟩
  exact ⟨neg, zs, ⟨_, rfl, (hs.below hbw).box y1 (setBx_but w1 (w.heap.size + 1) neg _)⟩, hg, rfl⟩

set_option maxHeartbeats 1000000 in
theorem fit_no (neg : Bool) (s : Value) (zs : List Int) (w : World) (hs : Sl w s zs) (hg : ¬ Good neg zs) :
    Calls Tryd.prog 51 #[.agg #[.bool neg, s]] w fun e w' => OpPost w none e w' := by
  obtain ⟨p, c, rfl⟩ := hs.shape
  obtain ⟨hb1, x0, x1⟩ := boxes1 w neg p zs.length c
  go_enter Tryd.func51, Tryd.ntmps51
  go_wp2_with fail
  refine (check_no neg _ zs _ (hs.below hb1) hg).mono ?_
  rintro e w1 ⟨rfl, hb2⟩
  have y0 := x0.below hb2 (by simp; omega)
  have y1 := x1.below hb2 (by simp)
  have hbw := hb1.trans (hb2.mono (by simp; omega))
  clear hb1 hb2 x0 x1
  obtain ⟨c0, c1, f0, f1, l0⟩ := y0.facts
  obtain ⟨d0, d1, g0, g1, l1⟩ := y1.facts
  go_wp2_with fail
  refine bodyPost_ret (results_box2 rfl _ _ (w.heap.size + 1) false (.slice none 0 0) rfl y1.set) rfl ?_
  exact ⟨_, rfl, IsN.zero _, hbw.trans ((setBx_but w1 (w.heap.size + 1) false _).below (by omega))⟩

/-- A sign and a size without a 0 at its top: whether it may be. -/
theorem good_signed (neg : Bool) {zs : List Int} (hn : Nm zs) : Good (neg && decide (0 < zs.length)) zs ↔ zs.length ≤ 12 := by
  refine ⟨fun h => h.1, fun h => ⟨h, hn, ?_⟩⟩
  rintro rfl
  simp
theorem Z_signed (neg : Bool) (zs : List Int) : Z (neg && decide (0 < zs.length)) (V zs) = Z neg (V zs) := by
  cases zs with
  | nil => cases neg <;> rfl
  | cons z t => simp
theorem room_len {zs : List Int} (hok : Ok zs) (hn : Nm zs) : zs.length ≤ 12 ↔ V zs < B 12 := by
  constructor
  · intro h
    have := V_lt hok
    have := B_mono h
    omega
  · intro h
    by_cases h0 : zs.length ≤ 12
    · exact h0
    · have h1 := V_ge hok hn (by omega)
      have h2 := B_mono (show 12 ≤ zs.length - 1 by omega)
      omega
theorem fitS_Z (neg : Bool) {zs : List Int} (hok : Ok zs) : fitS (Z neg (V zs)) = if V zs < B 12 then some (Z neg (V zs)) else none := by
  have h0 := V_nonneg hok
  have hB := B_pos 12
  unfold fitS
  by_cases h : V zs < B 12
  · rw [if_pos h, if_pos (by cases neg <;> simp [Z] <;> omega)]
  · rw [if_neg h, if_neg (by cases neg <;> simp [Z] <;> omega)]

/-- fit of what signed has answered. -/
theorem fit_signed (neg : Bool) (s : Value) (zs : List Int) (w : World) (hs : Sl w s zs) (hn : Nm zs) :
    Calls Tryd.prog 51 #[.agg #[.bool (neg && decide (0 < zs.length)), s]] w fun e w' => OpPost w (fitS (Z neg (V zs))) e w' := by
  rw [fitS_Z neg hs.ok]
  by_cases h : zs.length ≤ 12
  · have := fit_yes _ s zs w hs ((good_signed neg hn).2 h)
    rw [Z_signed] at this
    rw [if_pos ((room_len hs.ok hn).1 h)]
    exact this
  · rw [if_neg (fun h' => h ((room_len hs.ok hn).2 h'))]
    exact fit_no _ s zs w hs (fun h' => h h'.1)

theorem SgPost.isN {w : World} {neg : Bool} {zs : List Int} {e : Ending} {w' : World} (h : SgPost w neg zs e w') (hn : Nm zs) (hl : zs.length ≤ 12) : NPost w (Z neg (V zs)) e w' := by
  obtain ⟨s, rfl, hs, hb⟩ := h
  exact ⟨_, rfl, ⟨_, zs, ⟨s, rfl, hs⟩, (good_signed neg hn).2 hl, Z_signed neg zs⟩, hb⟩

theorem setBx_eq (w : World) (g : Nat) (neg : Bool) (s : Value) : (w.setCell ⟨g, 0, none⟩ (.bool neg)).setCell ⟨g, 1, none⟩ s = setBx w g neg s := rfl

/-- For a region that draws: what a box holds, in whatever world that has turned nothing old. -/
theorem Bx.held {w w' : World} {g : Nat} {neg : Bool} {s : Value} (h : Bx w g neg s) (hb : Below w.heap.size w w') : w'.cell? ⟨g, 0, none⟩ = some (.bool neg) ∧ w'.cell? ⟨g, 1, none⟩ = some s := by
  obtain ⟨c0, c1, -, -, l⟩ := h.facts
  exact ⟨(hb.cell (p := ⟨g, 0, none⟩) l).trans c0, (hb.cell (p := ⟨g, 1, none⟩) l).trans c1⟩
theorem Bx.lt {w : World} {g : Nat} {neg : Bool} {s : Value} (h : Bx w g neg s) : g < w.heap.size := h.facts.2.2.2.2
theorem Bx.under {w w' : World} {g : Nat} {neg : Bool} {s : Value} (h : Bx w g neg s) (hb : Below w.heap.size w w') : Bx w' g neg s := h.below hb h.lt

/-- A number that signed has made, stored into the result's box. -/
theorem sg_end {w w4 : World} {g n c : Nat} {neg n0 : Bool} {s0 : Value} {p : Option Addr} {zs : List Int} (hB : Below w.heap.size w w4) (hu : Bx w4 g n0 s0) (hg : w.heap.size ≤ g) (t : Sl w4 (.slice p n c) zs) (hn : Nm zs) (hl : zs.length ≤ 12) :
    NPost w (Z neg (V zs)) (.returned (.agg #[.bool (neg && decide (0 < zs.length)), .slice p n c])) (setBx w4 g (neg && decide (0 < zs.length)) (.slice p n c)) :=
  ⟨_, rfl, ⟨_, zs, ⟨_, rfl, t.box hu (setBx_but _ _ _ _)⟩, (good_signed neg hn).2 hl, Z_signed neg zs⟩, hB.trans ((setBx_but _ _ _ _).below hg)⟩
theorem Z_not (n : Bool) (x : Int) : Z (!n) x = - Z n x := by cases n <;> simp [Z]
theorem run_fieldL (n : Bool) (p : Option Addr) (m c : Nat) (w : World) : (Instr.field 26 (.agg #[.bool n, .slice p m c]) 1).run Tryd.prog w = .ok (.slice p m c) w := by kernel_rfl
theorem run_fieldN (n : Bool) (p : Option Addr) (m c : Nat) (w : World) : (Instr.field 26 (.agg #[.bool n, .slice p m c]) 0).run Tryd.prog w = .ok (.bool n) w := by kernel_rfl

/-- Two boxes laid one behind the other: two arguments'. -/
theorem boxes2' (w : World) (neg neg2 : Bool) (p p2 : Option Addr) (n c n2 c2 : Nat) :
    Below w.heap.size w ((w.alloc (.cells #[.bool neg, .slice p n c] 26)).alloc (.cells #[.bool neg2, .slice p2 n2 c2] 26)) ∧
    Bx ((w.alloc (.cells #[.bool neg, .slice p n c] 26)).alloc (.cells #[.bool neg2, .slice p2 n2 c2] 26)) w.heap.size neg (.slice p n c) ∧
    Bx ((w.alloc (.cells #[.bool neg, .slice p n c] 26)).alloc (.cells #[.bool neg2, .slice p2 n2 c2] 26)) (w.heap.size + 1) neg2 (.slice p2 n2 c2) := by
  refine ⟨((Below.refl w.heap.size w).alloc (Nat.le_refl _) _).alloc (by simp) _, (Bx.new w neg p n c).below ((Below.refl _ _).alloc (Nat.le_refl _) _) (by simp), ?_⟩
  have x1 := Bx.new (w.alloc (.cells #[.bool neg, .slice p n c] 26)) neg2 p2 n2 c2
  rwa [World.size_alloc] at x1

theorem Bx.held3 {w w' : World} {g g' : Nat} {neg m : Bool} {s s' : Value} (h : Bx w g neg s) (hb : Below w.heap.size w w') (hne : g ≠ g') :
    ((w'.setCell ⟨g', 0, none⟩ (.bool m)).setCell ⟨g', 1, none⟩ s').cell? ⟨g, 0, none⟩ = some (.bool neg) ∧ ((w'.setCell ⟨g', 0, none⟩ (.bool m)).setCell ⟨g', 1, none⟩ s').cell? ⟨g, 1, none⟩ = some s :=
  ((h.under hb).other (setBx_but w' g' m s') hne).held (Below.refl _ _)
end Go.Proofs.YtbmondbicnfcpaaDoor

/-
  num.Neg, num.Of.
-/
namespace Go.Proofs.YtbmondbicnfcpaaDoor
open Go.RowKit
set_option linter.unusedVariables false

set_option maxHeartbeats 2000000 in
theorem neg_any (v : Value) (x : Int) (w : World) (h : Nx w v x) : Calls Tryd.prog 27 #[v] w fun e w' => NPost w (-x) e w' := by
  have h0 := h
  obtain ⟨neg, zs, ⟨s, rfl, hs⟩, hv⟩ := h
  obtain ⟨p, c, rfl⟩ := hs.shape
  obtain ⟨hb1, x0, x1⟩ := boxes1 w neg p zs.length c
  have h1 := h0.below hb1
  clear h0
  go_enter Tryd.func27, Tryd.ntmps27
  go_wp2_with fail
  refine (taken_any _ x _ h1).mono ?_
  rintro e w1 ⟨v1, rfl, ⟨n1, z1, ⟨s1, rfl, t1⟩, hg1, hx1⟩, hb2⟩
  obtain ⟨p1, c1, rfl⟩ := t1.shape
  have y0 := x0.below hb2 (by simp; omega)
  have y1 := x1.below hb2 (by simp)
  have hbw := hb1.trans (hb2.mono (by simp; omega))
  have hx : Hid (Z n1 (V z1) = x) := hx1
  have hl1 : z1.length ≤ 12 := hg1.1
  clear hb1 hb2 x0 x1 hv hs h1 hg1 hx1
  have facts := And.intro y0.facts y1.facts
  obtain ⟨⟨a0, a1, f0, f1, l0⟩, d0, d1, g0, g1, l1⟩ := facts
  go_wp2_with fail
  rw [setBx_eq]
  have hbut := setBx_but w1 w.heap.size n1 (.slice p1 z1.length c1)
  have u0 := y0.set (neg' := n1) (p := p1) (n := z1.length) (c := c1)
  have u1 := y1.other hbut (by omega)
  replace t1 := t1.box y0 hbut
  replace hbw := hbw.trans (hbut.below (Nat.le_refl _))
  clear a0 a1 f0 f1 l0 d0 d1 g0 g1 l1 y0 y1 hbut
  generalize setBx w1 w.heap.size n1 (.slice p1 z1.length c1) = w2 at *
  go_region_held3 (fun w' => w'.cell? ⟨w.heap.size, 0, none⟩ = some (.bool n1) ∧ w'.cell? ⟨w.heap.size, 1, none⟩ = some (.slice p1 z1.length c1))
    (first | exact u0.held ((Below.refl _ _).drew) | exact u0.held (by assumption) | go_keep)
    (first
      | (go_at_call 58; refine (norm_any _ z1 _ ?_ ?_).mono ?_; exact t1.below ((Below.refl _ _).drew); omega; intro e w3 h3; obtain ⟨v3, z3, rfl, s3, m3, x3, l3, b3, -⟩ := h3.num (by omega); have b3' : Below w2.heap.size w2 w3 := (Below.refl _ _).drew.trans b3; clear h3)
      | (go_at_call 53; refine (signed_any _ _ z3 _ ?_).mono ?_; exact s3; rintro e w4 ⟨s4, rfl, t4, b4⟩; have b4' : Below w2.heap.size w2 w4 := b3'.trans (b4.mono b3'.size); obtain ⟨c40, c41, f40, f41, l4⟩ := (u1.under b4').facts; obtain ⟨p4, c4, rfl⟩ := t4.shape))
  go_wp2_with fail
  refine bodyPost_ret (results_box1 rfl _ _ (w.heap.size + 1) _ _ rfl ((u1.under b4').set)) rfl ?_
  have e := sg_end (neg := !n1) (hbw.trans (b4'.mono hbw.size)) (u1.under b4') (by omega) t4 m3 (by omega)
  rw [Z_not, x3, hx.out] at e
  exact e

theorem abs_Z (n : Bool) {zs : List Int} (h : Ok zs) : ((Z n (V zs)).natAbs : Int) = V zs := by
  have := V_nonneg h
  cases n <;> simp [Z] <;> omega

theorem row_lit2 (w : World) (y z : Int) : Row (w.alloc (.cells #[.int .u32 y, .int .u32 z] 59)) w.heap.size [y, z] := by
  unfold Row
  exact heap_alloc_new w _
theorem sl_lit2 (w : World) (y z : Int) (h0 : 0 ≤ y) (h1 : y < 4294967296) (h2 : 0 ≤ z) (h3 : z < 4294967296) : Sl (w.alloc (.cells #[.int .u32 y, .int .u32 z] 59)) (.slice (some ⟨w.heap.size, 0, none⟩) 2 2) [y, z] :=
  (row_lit2 w y z).all (by intro q hq; simp at hq; omega) (by simp)

/-- The result's box, and a list of two behind it. -/
theorem box_lit (w : World) (y : Int) : Below w.heap.size w ((w.alloc (.cells #[.bool false, .slice none 0 0] 26)).alloc (.cells #[.int .u32 (y % 4294967296), .int .u32 (y / 4294967296)] 59)) ∧
    Bx ((w.alloc (.cells #[.bool false, .slice none 0 0] 26)).alloc (.cells #[.int .u32 (y % 4294967296), .int .u32 (y / 4294967296)] 59)) w.heap.size false (.slice none 0 0) ∧ True :=
  ⟨((Below.refl w.heap.size w).alloc (Nat.le_refl _) _).alloc (by simp) _, (Bx.new w false none 0 0).below ((Below.refl _ _).alloc (Nat.le_refl _) _) (by simp), trivial⟩

set_option maxHeartbeats 2000000 in
theorem of_any (x : Int) (w : World) (h0 : -9223372036854775808 ≤ x) (h1 : x ≤ 9223372036854775807) : Calls Tryd.prog 26 #[.int .i64 x] w fun e w' => NPost w x e w' := by
  by_cases hn : x < 0
  · obtain ⟨y, hy⟩ : ∃ y, y = -x := ⟨_, rfl⟩
    have hw : IntKind.u64.wrap (-IntKind.u64.wrap x) = y := by rw [IntKind.wrap_u64, IntKind.wrap_u64]; omega
    have hy0 : 0 ≤ y := by omega
    have hy1 : y < 18446744073709551616 := by omega
    have HY : Hid (y = -x) := hy
    clear hy
    obtain ⟨b0, x1, q1⟩ := box_lit w y
    have sl := sl_lit2 (w.alloc (.cells #[.bool false, .slice none 0 0] 26)) (y % 4294967296) (y / 4294967296) (by omega) (by omega) (by omega) (by omega)
    rw [World.size_alloc] at sl
    go_enter Tryd.func26, Tryd.ntmps26
    go_wp2_with fail
    refine (norm_any _ [y % 4294967296, y / 4294967296] _ sl (by simp)).mono ?_
    intro e w1 h1
    obtain ⟨v1, z1, rfl, s1, m1, v1', l1, b1, -⟩ := h1.num (by simp)
    have hV : Hid (V z1 = y) := by
      show V z1 = y
      rw [v1']; simp only [V]; omega
    have l1' : z1.length ≤ 2 := l1
    have u1 := x1.under b1
    have hbw := b0.trans (b1.mono b0.size)
    clear h1 l1 v1' sl b0 x1 q1 b1
    go_wp2_with fail
    refine (signed_any _ _ z1 _ s1).mono ?_
    rintro e w2 ⟨s2, rfl, t2, b2⟩
    obtain ⟨p2, c2, rfl⟩ := t2.shape
    replace u1 := u1.under b2
    replace hbw := hbw.trans (b2.mono hbw.size)
    obtain ⟨d0, d1, g0, g1, l1⟩ := u1.facts
    go_wp2_with fail
    refine bodyPost_ret (results_box1 rfl _ _ w.heap.size _ _ rfl u1.set) rfl ?_
    have e := sg_end (neg := true) hbw u1 (Nat.le_refl _) t2 m1 (by omega)
    rw [hV.out] at e
    rw [show Z true y = x by simp only [Z]; rw [HY.out]; simp] at e
    exact e
  · have hx0 : 0 ≤ x := by omega
    obtain ⟨b0, x1, q1⟩ := box_lit w x
    have sl := sl_lit2 (w.alloc (.cells #[.bool false, .slice none 0 0] 26)) (x % 4294967296) (x / 4294967296) (by omega) (by omega) (by omega) (by omega)
    rw [World.size_alloc] at sl
    go_enter Tryd.func26, Tryd.ntmps26
    go_wp2_with fail
    refine (norm_any _ [x % 4294967296, x / 4294967296] _ sl (by simp)).mono ?_
    intro e w1 h1
    obtain ⟨v1, z1, rfl, s1, m1, v1', l1, b1, -⟩ := h1.num (by simp)
    have hV : Hid (V z1 = x) := by
      show V z1 = x
      rw [v1']; simp only [V]; omega
    have l1' : z1.length ≤ 2 := l1
    have u1 := x1.under b1
    have hbw := b0.trans (b1.mono b0.size)
    clear h1 l1 v1' sl b0 x1 q1 b1
    go_wp2_with fail
    refine (signed_any _ _ z1 _ s1).mono ?_
    rintro e w2 ⟨s2, rfl, t2, b2⟩
    obtain ⟨p2, c2, rfl⟩ := t2.shape
    replace u1 := u1.under b2
    replace hbw := hbw.trans (b2.mono hbw.size)
    obtain ⟨d0, d1, g0, g1, l1⟩ := u1.facts
    go_wp2_with fail
    refine bodyPost_ret (results_box1 rfl _ _ w.heap.size _ _ rfl u1.set) rfl ?_
    have e := sg_end (neg := false) hbw u1 (Nat.le_refl _) t2 m1 (by omega)
    rw [hV.out] at e
    exact e
end Go.Proofs.YtbmondbicnfcpaaDoor

/-
  num.Cmp; two numbers taken.
-/
namespace Go.Proofs.YtbmondbicnfcpaaDoor
open Go.RowKit
set_option linter.unusedVariables false
attribute [local go_sem ↓] Go.wp_at_zero Go.wp_at_succ

/-- Two boxes, at g and behind it, hold numbers that may be: x and y. -/
def Two (w : World) (g : Nat) (x y : Int) (wc : World) : Prop := ∃ n1 p1 c1 z1 n2 p2 c2 z2, Bx wc g n1 (.slice p1 (List.length z1) c1) ∧ Bx wc (g + 1) n2 (.slice p2 (List.length z2) c2) ∧ Sl wc (.slice p1 z1.length c1) z1 ∧ Sl wc (.slice p2 z2.length c2) z2 ∧
  Good n1 z1 ∧ Good n2 z2 ∧ Z n1 (V z1) = x ∧ Z n2 (V z2) = y ∧ Below w.heap.size w wc

theorem Two.mk {w w2 : World} {g : Nat} {x y : Int} {m1 m2 n1 n2 : Bool} {o1 o2 : Value} {p1 p2 : Option Addr} {c1 c2 : Nat} {z1 z2 : List Int} (u1 : Bx w2 g m1 o1) (u2 : Bx w2 (g + 1) m2 o2)
    (t1 : Sl w2 (.slice p1 z1.length c1) z1) (t2 : Sl w2 (.slice p2 z2.length c2) z2) (h1 : Good n1 z1) (h2 : Good n2 z2) (hx : Z n1 (V z1) = x) (hy : Z n2 (V z2) = y) (hB : Below w.heap.size w w2) (hg : w.heap.size ≤ g) :
    Two w g x y (setBx (setBx w2 g n1 (.slice p1 z1.length c1)) (g + 1) n2 (.slice p2 z2.length c2)) := by
  have b1 := setBx_but w2 g n1 (.slice p1 z1.length c1)
  have v1 := u1.set (neg' := n1) (p := p1) (n := z1.length) (c := c1)
  have v2 := u2.other b1 (by omega)
  have b2 := setBx_but (setBx w2 g n1 (.slice p1 z1.length c1)) (g + 1) n2 (.slice p2 z2.length c2)
  exact ⟨n1, p1, c1, z1, n2, p2, c2, z2, v1.other b2 (by omega), v2.set, (t1.box u1 b1).box v2 b2, (t2.box u1 b1).box v2 b2, h1, h2, hx, hy, (hB.trans (b1.below hg)).trans (b2.below (by omega))⟩

theorem sg_neg (a b : Int) : sg (-a) (-b) = sg b a := by
  rcases Int.lt_trichotomy a b with h | h | h
  · rw [sg_gt h, sg_gt (by omega)]
  · rw [h, sg_self, sg_self]
  · rw [sg_lt h, sg_lt (by omega)]

theorem Z_pos {n : Bool} {zs : List Int} (hg : Good n zs) (hok : Ok zs) : (n = true → Z n (V zs) < 0) ∧ (n = false → 0 ≤ Z n (V zs)) := by
  have h0 := V_nonneg hok
  refine ⟨?_, ?_⟩
  · rintro rfl
    have h1 : zs ≠ [] := fun h => by cases hg.2.2 h
    have h2 : V zs ≠ 0 := fun h => h1 (len_zero hok hg.2.1 h)
    simp [Z]; omega
  · rintro rfl
    simpa [Z] using h0

set_option maxHeartbeats 4000000 in
theorem ncmp_any (va vb : Value) (x y : Int) (w : World) (ha : Nx w va x) (hb : Nx w vb y) : Calls Tryd.prog 30 #[va, vb] w fun e w' => CmpPost w x y e w' := by
  have ha0 := ha
  have hb0 := hb
  obtain ⟨na, za, ⟨sa, rfl, hsa⟩, -⟩ := ha
  obtain ⟨nb, zb, ⟨sb, rfl, hsb⟩, -⟩ := hb
  obtain ⟨pa, ca, rfl⟩ := hsa.shape
  obtain ⟨pb, cb, rfl⟩ := hsb.shape
  obtain ⟨hB0, xa, xb⟩ := boxes2' w na nb pa pb za.length ca zb.length cb
  clear hsa hsb
  go_enter Tryd.func30, Tryd.ntmps30
  go_wp2_with fail
  replace ha0 := ha0.below hB0
  replace hb0 := hb0.below hB0
  generalize hw0 : (w.alloc (.cells #[.bool na, .slice pa za.length ca] 26)).alloc (.cells #[.bool nb, .slice pb zb.length cb] 26) = w0 at *
  clear hw0
  obtain ⟨i0, i1, -⟩ := xa.facts
  obtain ⟨j0, j1, -⟩ := xb.facts
  go_cut [] from 5 (fun wc => Two w w.heap.size x y wc)
  case first =>
    go_region_with (first
      | (go_at_call_of 50 (Value.slice pa za.length ca); refine (taken_any _ x _ ?_).mono ?_; exact ha0.below ((Below.refl _ _).drew); rintro e w1 ⟨v1, rfl, ⟨n1, z1, ⟨s1, rfl, t1⟩, hg1, hx1⟩, hb1⟩; have hB1 : Below w0.heap.size w0 w1 := (Below.refl _ _).drew.trans hb1; obtain ⟨c10, c11, f10, f11, l1⟩ := (xb.under hB1).facts)
      | (go_at_call_of 50 (Value.slice pb zb.length cb); refine (taken_any _ y _ ?_).mono ?_; exact hb0.below hB1; rintro e w2 ⟨v2, rfl, ⟨n2, z2, ⟨s2, rfl, t2⟩, hg2, hx2⟩, hb2⟩; have hB2 : Below w0.heap.size w0 w2 := hB1.trans (hb2.mono hB1.size); obtain ⟨p1, c1, rfl⟩ := t1.shape; obtain ⟨p2, c2, rfl⟩ := t2.shape; obtain ⟨d20, d21, g20, g21, l2⟩ := (xa.under hB2).facts; obtain ⟨c20, c21, f20, f21, l3⟩ := (xb.under hB2).facts))
    all_goals
      go_wp2_with fail
      go_meet
      case rel => exact Two.mk (xa.under hB2) (xb.under hB2) (t1.below hb2) t2 hg1 hg2 hx1 hx2 (hB0.trans (hB2.mono hB0.size)) (Nat.le_refl _)
  case rest =>
    obtain ⟨n1, p1, c1, z1, n2, p2, c2, z2, u1, u2, t1, t2, hg1, hg2, hx, hy, hB⟩ := hcut
    clear ha0 hb0 xa xb hB0 i0 i1 j0 j1
    obtain ⟨i0, i1, -⟩ := u1.facts
    obtain ⟨j0, j1, -⟩ := u2.facts
    have s1 := Z_pos hg1 t1.ok
    have s2 := Z_pos hg2 t2.ok
    have HX : Hid (Z n1 (V z1) = x) := hx
    have HY : Hid (Z n2 (V z2) = y) := hy
    clear hg1 hg2 hx hy
    cases n1 <;> cases n2
    · clear s1 s2
      go_wp2_with fail
      refine (cmp_any _ _ z1 z2 _ t1 t2).mono ?_
      rintro e w3 ⟨rfl, hb3⟩
      go_wp2_with fail
      go_ret
      exact ⟨by rw [← HX.out, ← HY.out]; rfl, hB.trans (hb3.mono hB.size)⟩
    · have e : Hid (sg x y = 1) := sg_gt (by have := s1.2 rfl; have := s2.1 rfl; rw [HX.out] at *; rw [HY.out] at *; omega)
      clear s1 s2
      go_wp2_with fail
      go_ret
      exact ⟨by rw [e.out]; rfl, hB⟩
    · have e : Hid (sg x y = -1) := sg_lt (by have := s1.1 rfl; have := s2.2 rfl; rw [HX.out] at *; rw [HY.out] at *; omega)
      clear s1 s2
      go_wp2_with fail
      go_ret
      exact ⟨by rw [e.out]; rfl, hB⟩
    · clear s1 s2
      go_wp2_with fail
      refine (cmp_any _ _ z2 z1 _ t2 t1).mono ?_
      rintro e w3 ⟨rfl, hb3⟩
      go_wp2_with fail
      go_ret
      refine ⟨?_, hB.trans (hb3.mono hB.size)⟩
      rw [← HX.out, ← HY.out]
      simp only [Z, if_true]
      rw [sg_neg]; rfl
end Go.Proofs.YtbmondbicnfcpaaDoor

/-
  num.Int: the number, if Go has it.
-/
namespace Go.Proofs.YtbmondbicnfcpaaDoor
open Go.RowKit
set_option linter.unusedVariables false

/-- The number, if Go has it. -/
def intS (x : Int) : Option Int := if -9223372036854775808 ≤ x ∧ x ≤ 9223372036854775807 then some x else none

def IntPost (w : World) (r : Option Int) (e : Ending) (w' : World) : Prop := e = .returned (.tuple #[.int .i64 (r.getD 0), .bool r.isSome]) ∧ Below w.heap.size w w'

theorem or_low (x1 x0 : Int) (h1 : 0 ≤ x1) (h2 : x1 < 4294967296) (h3 : 0 ≤ x0) (h4 : x0 < 4294967296) : bits .or .u64 x0 (x1 * 4294967296) = x0 + x1 * 4294967296 := by
  obtain ⟨X, rfl⟩ := Int.eq_ofNat_of_zero_le h1
  obtain ⟨Y, rfl⟩ := Int.eq_ofNat_of_zero_le h3
  have e : ((X : Int) * 4294967296) = ((2 ^ 32 * X : Nat) : Int) := by simp; omega
  have hp : (2 : Nat) ^ 32 = 4294967296 := by decide
  rw [e, u64_or_nat _ _ (by omega) (by omega), Nat.or_comm, or_nat 32 X Y (by omega)]
  simp
  omega
theorem or_zero (x : Int) (h1 : 0 ≤ x) (h2 : x < 18446744073709551616) : bits .or .u64 0 x = x := by
  obtain ⟨X, rfl⟩ := Int.eq_ofNat_of_zero_le h1
  rw [show (0 : Int) = ((0 : Nat) : Int) from rfl, u64_or_nat _ _ (by omega) (by omega), Nat.zero_or]

theorem len_big {a : List Int} (ha : Ok a) (hn : Nm a) {n : Nat} (h : IsLen (V a) n) (hl : 2 < a.length) : 64 < n ∧ 18446744073709551616 ≤ V a := by
  have h1 := V_ge ha hn (by omega)
  have h2 := B_mono (show 2 ≤ a.length - 1 by omega)
  have h3 : B 2 = 18446744073709551616 := by decide
  have h4 : T 64 = 18446744073709551616 := by decide +kernel
  refine ⟨?_, by omega⟩
  rcases h with ⟨e, _⟩ | ⟨k1, k2, k3⟩
  · omega
  · by_cases hc : 64 < n
    · exact hc
    · have := T_mono (show n ≤ 64 by omega)
      omega
theorem len_small {a : List Int} (ha : Ok a) {n : Nat} (h : IsLen (V a) n) (hl : a.length ≤ 2) : n ≤ 64 ∧ V a < 18446744073709551616 := by
  have h1 := V_lt ha
  have h2 := B_mono hl
  have h3 : B 2 = 18446744073709551616 := by decide
  have h4 : T 64 = 18446744073709551616 := by decide +kernel
  refine ⟨?_, by omega⟩
  rcases h with ⟨e, k⟩ | ⟨k1, k2, k3⟩
  · omega
  · by_cases hc : n ≤ 64
    · exact hc
    · have := T_mono (show 64 ≤ n - 1 by omega)
      omega

set_option maxHeartbeats 4000000 in
theorem int_any (v : Value) (x : Int) (w : World) (h : Nx w v x) : Calls Tryd.prog 29 #[v] w fun e w' => IntPost w (intS x) e w' := by
  have h0 := h
  obtain ⟨neg, zs, ⟨s, rfl, hs⟩, hv⟩ := h
  obtain ⟨p, c, rfl⟩ := hs.shape
  have hb1 := (Below.refl w.heap.size w).alloc (Nat.le_refl _) (.cells #[.bool neg, .slice p zs.length c] 26)
  have x0 := Bx.new w neg p zs.length c
  have h1 := h0.below hb1
  clear h0
  go_enter Tryd.func29, Tryd.ntmps29
  go_wp2_with fail
  refine (taken_any _ x _ h1).mono ?_
  rintro e w1 ⟨v1, rfl, ⟨n1, z1, ⟨s1, rfl, t1⟩, hg1, hx1⟩, hb2⟩
  obtain ⟨p1, c1, rfl⟩ := t1.shape
  have y0 := x0.below hb2 (by simp)
  have hbw := hb1.trans (hb2.mono (by simp))
  have hx : Hid (Z n1 (V z1) = x) := hx1
  have hl1 : z1.length ≤ 12 := hg1.1
  have hnm : Nm z1 := hg1.2.1
  have hneg : z1 = [] → n1 = false := hg1.2.2
  clear hb1 hb2 x0 hv hs h1 hg1 hx1
  obtain ⟨a0, a1, f0, f1, l0⟩ := y0.facts
  go_wp2_with fail
  rw [setBx_eq]
  have hbut := setBx_but w1 w.heap.size n1 (.slice p1 z1.length c1)
  have u0 := y0.set (neg' := n1) (p := p1) (n := z1.length) (c := c1)
  replace t1 := t1.box y0 hbut
  replace hbw := hbw.trans (hbut.below (Nat.le_refl _))
  clear a0 a1 f0 f1 l0 y0 hbut
  generalize setBx w1 w.heap.size n1 (.slice p1 z1.length c1) = w2 at *
  obtain ⟨c0, c1', -⟩ := u0.facts
  refine (len_any _ z1 _ t1 (by omega)).mono ?_
  rintro e w3 ⟨n, rfl, rfl, hn, hn2⟩
  have hnn := V_nonneg t1.ok
  by_cases hlen : 2 < z1.length
  · obtain ⟨hn64, hV⟩ := len_big t1.ok hnm hn hlen
    have hn64' : (64 : Int) < (n : Int) := by omega
    have e : Hid (intS x = none) := by
      show intS x = none
      rw [← hx.out]
      unfold intS
      rw [if_neg (by cases n1 <;> simp [Z] <;> omega)]
    clear hV hn hn2 hlen hnm hneg hnn
    go_wp2_with fail
    go_ret2
    exact ⟨by rw [e.out]; rfl, hbw⟩
  · obtain ⟨hn64, hV⟩ := len_small t1.ok hn (by omega)
    have hn64' : ¬ ((64 : Int) < (n : Int)) := by omega
    have hlen' : z1.length ≤ 2 := by omega
    clear hlen hn hn2
    go_wp2_with fail
    have HV : Hid (V z1 < 18446744073709551616) := hV
    clear hV
    go_loop [4, 17] (fun a i => ∃ (k : Nat) (m : Int), k ≤ z1.length ∧ a = .int .u64 m ∧ i = .int .i64 k ∧ m = V (z1.take k)) (fun _ i => z1.length - (intOf i).toNat)
    case atStart => exact ⟨0, 0, by omega, rfl, rfl, rfl⟩
    case round =>
      obtain ⟨k, m, hk, rfl, rfl, hm⟩ := hrel
      by_cases hkl : k < z1.length
      · obtain ⟨b, off, rfl, hc⟩ := t1.at k hkl
        have hkl' : (k : Int) < (z1.length : Int) := by omega
        have hz := t1.ok.getD k
        have hst := V_take_next z1 k
        have hk1 : k = 0 ∨ k = 1 := by omega
        rcases hk1 with rfl | rfl
        · generalize z1.getD 0 0 = d at *
          have ho := or_zero d hz.1 (by omega)
          have HS : Hid (d = V (z1.take 1)) := by
            show d = V (z1.take 1)
            rw [hst]; simp [B, V]
          obtain rfl : m = 0 := hm
          clear hst
          simp only [Nat.add_zero] at hc
          go_wp2_with fail
          go_round
          case rel => exact ⟨1, d, by omega, rfl, rfl, HS.out⟩
          case measure => simp [intOf]; omega
        · have hm0 := V_nonneg (t1.ok.take 1)
          have hm1 : V (z1.take 1) < 4294967296 := by
            have := V_lt (t1.ok.take 1)
            have e : (z1.take 1).length = 1 := by simp; omega
            rw [e] at this
            simpa [B] using this
          rw [← hm] at hm0 hm1 hst
          generalize z1.getD 1 0 = d at *
          have ho := or_low d m hz.1 hz.2 hm0 hm1
          have HS : Hid (m + d * 4294967296 = V (z1.take 2)) := by
            show m + d * 4294967296 = V (z1.take 2)
            rw [hst]; simp only [B]; omega
          clear hst hm
          go_wp2_with fail
          go_round
          case rel => exact ⟨2, _, by omega, rfl, rfl, HS.out⟩
          case measure => simp [intOf]; omega
      · obtain rfl : k = z1.length := by omega
        rw [List.take_length] at hm
        have hm1 : m < 18446744073709551616 := by rw [hm]; exact HV.out
        rw [← hm] at hnn hx
        have hneg' : n1 = true → 0 < m := fun h => by
          have h1 : z1 ≠ [] := fun h' => by have := hneg h'; rw [h] at this; cases this
          have h2 : V z1 ≠ 0 := fun h' => h1 (len_zero t1.ok hnm h')
          rw [hm]; rw [hm] at hnn; omega
        clear hneg hm
        cases n1
        · by_cases hbig : m ≤ 9223372036854775807
          · have e : Hid (intS x = some m) := by
              show intS x = some m
              rw [← hx.out]
              unfold intS
              rw [if_pos (by simp [Z]; omega)]; rfl
            go_wp2_with fail
            go_ret2
            exact ⟨by rw [e.out]; rfl, hbw⟩
          · have e : Hid (intS x = none) := by
              show intS x = none
              rw [← hx.out]
              unfold intS
              rw [if_neg (by simp [Z]; omega)]
            have hw : IntKind.i64.wrap m = m - 18446744073709551616 := by rw [IntKind.wrap_i64]; omega
            go_wp2_with fail
            go_ret2
            exact ⟨by rw [e.out]; rfl, hbw⟩
        · have hm0 := hneg' rfl
          by_cases hbig : m ≤ 9223372036854775808
          · have e : Hid (intS x = some (-m)) := by
              show intS x = some (-m)
              rw [← hx.out]
              unfold intS
              rw [if_pos (by simp [Z]; omega)]; rfl
            by_cases hm2 : m = 9223372036854775808
            · subst hm2
              have hz : wrap64 (-wrap64 9223372036854775808) = -9223372036854775808 := by unfold wrap64; omega
              go_wp2_with fail
              go_ret2
              exact ⟨by rw [e.out]; rfl, hbw⟩
            · have hm3 : m ≤ 9223372036854775807 := by omega
              have hm4 : -m < 0 := by omega
              go_wp2_with fail
              go_ret2
              exact ⟨by rw [e.out]; rfl, hbw⟩
          · have e : Hid (intS x = none) := by
              show intS x = none
              rw [← hx.out]
              unfold intS
              rw [if_neg (by simp [Z]; omega)]
            obtain ⟨r, hr⟩ : ∃ r, r = 18446744073709551616 - m := ⟨_, rfl⟩
            have hw : IntKind.i64.wrap m = -r := by rw [IntKind.wrap_i64]; omega
            have hr0 : 0 < r := by omega
            have hr1 : r ≤ 9223372036854775807 := by omega
            have ht : (!decide (r < 0)) = true := by simp; omega
            clear hr
            go_wp2_with fail
            go_ret2
            exact ⟨by rw [e.out]; rfl, hbw⟩
end Go.Proofs.YtbmondbicnfcpaaDoor
