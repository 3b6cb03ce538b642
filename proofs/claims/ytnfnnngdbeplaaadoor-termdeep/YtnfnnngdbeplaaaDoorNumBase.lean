
/-
  Numbers with a sign (api.Num), as the walks want them: Good (may be), Z (its integer), Nx (a value that is taken as the integer x), IsN (a value that may be, and is x).
-/
import Derived.Test.YtnfnnngdbeplaaaDoorLit
import Derived.Test.YtnfnnngdbeplaaaDoorDiv
import Derived.Deep.RegionHeld3
import Derived.Deep.DrawnRows
namespace Go.Proofs.YtnfnnngdbeplaaaDoor
open Go.RowKit
set_option linter.unusedVariables false

/-- A number that may be. -/
def Good (neg : Bool) (zs : List Int) : Prop := zs.length ≤ 12 ∧ Nm zs ∧ (zs = [] → neg = false)

/-- It can be told. -/
def goodDec (neg : Bool) (zs : List Int) : Decidable (Good neg zs) := inferInstanceAs (Decidable (zs.length ≤ 12 ∧ (0 < zs.length → zs.getD (zs.length - 1) 0 ≠ 0) ∧ (zs = [] → neg = false)))

/-- A sign and a size. -/
def Z (neg : Bool) (x : Int) : Int := if neg = true then -x else x

/-- What a number is taken as. -/
def val (neg : Bool) (zs : List Int) : Int := @ite Int (Good neg zs) (goodDec neg zs) (Z neg (V zs)) 0

/-- The value v is in w the sign neg and the limbs zs. -/
def Nu (w : World) (v : Value) (neg : Bool) (zs : List Int) : Prop := ∃ s, v = .agg #[.bool neg, s] ∧ Sl w s zs

/-- v is taken as x. -/
def Nx (w : World) (v : Value) (x : Int) : Prop := ∃ neg zs, Nu w v neg zs ∧ val neg zs = x

/-- v may be, and is x. -/
def IsN (w : World) (v : Value) (x : Int) : Prop := ∃ neg zs, Nu w v neg zs ∧ Good neg zs ∧ Z neg (V zs) = x

theorem Nu.below {w w' : World} {v : Value} {neg : Bool} {zs : List Int} (h : Nu w v neg zs) (hb : Below w.heap.size w w') : Nu w' v neg zs := by
  obtain ⟨s, rfl, hs⟩ := h
  exact ⟨s, rfl, hs.below hb⟩
theorem Nx.below {w w' : World} {v : Value} {x : Int} (h : Nx w v x) (hb : Below w.heap.size w w') : Nx w' v x := by
  obtain ⟨neg, zs, h1, h2⟩ := h
  exact ⟨neg, zs, h1.below hb, h2⟩
theorem IsN.below {w w' : World} {v : Value} {x : Int} (h : IsN w v x) (hb : Below w.heap.size w w') : IsN w' v x := by
  obtain ⟨neg, zs, h1, h2⟩ := h
  exact ⟨neg, zs, h1.below hb, h2⟩
theorem IsN.nx {w : World} {v : Value} {x : Int} (h : IsN w v x) : Nx w v x := by
  obtain ⟨neg, zs, h1, h2, h3⟩ := h
  exact ⟨neg, zs, h1, by unfold val; rw [if_pos h2]; exact h3⟩

theorem Good.nil : Good false [] := ⟨by simp, Nm_nil, fun _ => rfl⟩
theorem IsN.zero (w : World) : IsN w (.agg #[.bool false, .slice none 0 0]) 0 := ⟨false, [], ⟨_, rfl, Sl.nil w⟩, Good.nil, rfl⟩

set_option maxHeartbeats 1000000 in
theorem check_yes (neg : Bool) (s : Value) (zs : List Int) (w : World) (hs : Sl w s zs) (hg : Good neg zs) :
    Calls Tryd.prog 69 #[.agg #[.bool neg, s]] w fun e w' => e = .returned (.bool true) ∧ Below w.heap.size w w' := by
  obtain ⟨p, c, rfl⟩ := hs.shape
  obtain ⟨h1, h2, h3⟩ := hg
  have hb0 := (Below.refl w.heap.size w).alloc (Nat.le_refl _) (.cells #[.bool neg, .slice p zs.length c] 24)
  by_cases h0 : zs.length = 0
  · obtain rfl : zs = [] := List.eq_nil_of_length_eq_zero h0
    obtain rfl := h3 rfl
    go_enter Tryd.func69, Tryd.ntmps69
    go_wp2_with fail
    go_ret
    exact ⟨rfl, hb0⟩
  · obtain ⟨b, off, rfl, hc⟩ := (hs.below hb0).at (zs.length - 1) (by omega)
    have hx := hs.ok.getD (zs.length - 1)
    have hne := h2 (by omega)
    generalize zs.getD (zs.length - 1) 0 = t at *
    have hb : (t != 0) = true := by simpa using hne
    go_enter Tryd.func69, Tryd.ntmps69
    go_wp2_with fail
    go_ret
    exact ⟨rfl, hb0⟩

set_option maxHeartbeats 1000000 in
theorem check_no (neg : Bool) (s : Value) (zs : List Int) (w : World) (hs : Sl w s zs) (hg : ¬ Good neg zs) :
    Calls Tryd.prog 69 #[.agg #[.bool neg, s]] w fun e w' => e = .returned (.bool false) ∧ Below w.heap.size w w' := by
  obtain ⟨p, c, rfl⟩ := hs.shape
  have hb0 := (Below.refl w.heap.size w).alloc (Nat.le_refl _) (.cells #[.bool neg, .slice p zs.length c] 24)
  by_cases h0 : zs.length = 0
  · obtain rfl : zs = [] := List.eq_nil_of_length_eq_zero h0
    obtain rfl : neg = true := by
      cases neg
      · exact absurd Good.nil hg
      · rfl
    go_enter Tryd.func69, Tryd.ntmps69
    go_wp2_with fail
    go_ret
    exact ⟨rfl, hb0⟩
  · by_cases hl : zs.length ≤ 12
    · obtain ⟨b, off, rfl, hc⟩ := (hs.below hb0).at (zs.length - 1) (by omega)
      have hne : zs.getD (zs.length - 1) 0 = 0 := by
        refine Classical.byContradiction fun h => hg ⟨hl, fun _ => h, fun e => absurd (by rw [e]; rfl) h0⟩
      rw [hne] at hc
      go_enter Tryd.func69, Tryd.ntmps69
      go_wp2_with fail
      go_ret
      exact ⟨rfl, hb0⟩
    · have hlen := hs.len
      have hl' : ¬ ((zs.length : Int) - 1 < 12) := by omega
      go_enter Tryd.func69, Tryd.ntmps69
      go_wp2_with fail
      go_ret
      exact ⟨rfl, hb0⟩

/-- A box of two cells, a sign and a slice: a number of the call's own. -/
def Bx (w : World) (g : Nat) (neg : Bool) (s : Value) : Prop := w.heap[g]? = some (.cells #[.bool neg, s] 24 (0, 0)) ∧ ∃ p n c, s = .slice p n c

theorem Bx.below {w w' : World} {g B : Nat} {neg : Bool} {s : Value} (h : Bx w g neg s) (hb : Below B w w') (hg : g < B) : Bx w' g neg s := ⟨by rw [hb.block g hg]; exact h.1, h.2⟩

theorem Bx.facts {w : World} {g : Nat} {neg : Bool} {s : Value} (h : Bx w g neg s) :
    w.cell? ⟨g, 0, none⟩ = some (.bool neg) ∧ w.cell? ⟨g, 1, none⟩ = some s ∧ w.frozen? ⟨g, 0, none⟩ = false ∧ w.frozen? ⟨g, 1, none⟩ = false ∧ g < w.heap.size := by
  obtain ⟨h, _⟩ := h
  refine ⟨?_, ?_, ?_, ?_, (Array.getElem?_eq_some_iff.1 h).1⟩
  · simp [World.cell?, h]
  · simp [World.cell?, h]
  · simp [World.frozen?, h]
  · simp [World.frozen?, h]

theorem Bx.new (w : World) (neg : Bool) (p : Option Addr) (n c : Nat) : Bx (w.alloc (.cells #[.bool neg, .slice p n c] 24)) w.heap.size neg (.slice p n c) :=
  ⟨heap_alloc_new w _, p, n, c, rfl⟩

/-- The world behind a store of a number into its box. -/
def setBx (w : World) (g : Nat) (neg : Bool) (s : Value) : World := (w.setCell ⟨g, 0, none⟩ (.bool neg)).setCell ⟨g, 1, none⟩ s

theorem Bx.set {w : World} {g : Nat} {neg neg' : Bool} {s : Value} {p : Option Addr} {n c : Nat} (h : Bx w g neg s) : Bx (setBx w g neg' (.slice p n c)) g neg' (.slice p n c) := by
  refine ⟨?_, _, _, _, rfl⟩
  simp [setBx, World.setCell, Array.getElem?_modify, h.1]

theorem setBx_but (w : World) (g : Nat) (neg : Bool) (s : Value) : But g w (setBx w g neg s) := ((But.refl g w).setCell 0 _).setCell 1 _

theorem Bx.other {w w' : World} {g g' : Nat} {neg : Bool} {s : Value} (h : Bx w g neg s) (hb : But g' w w') (hne : g ≠ g') : Bx w' g neg s := ⟨by rw [hb.block g hne]; exact h.1, h.2⟩

/-- A slice of limbs lies in no box. -/
theorem Sl.box {w : World} {v s : Value} {zs : List Int} {g : Nat} {neg : Bool} (h : Sl w v zs) (hb : Bx w g neg s) {w' : World} (hw : But g w w') : Sl w' v zs := by
  obtain ⟨hok, a, n, cap, rfl, hl, hc, hm, hn, hp⟩ := h
  refine ⟨hok, a, n, cap, rfl, hl, hc, hm, hn, fun h0 => ?_⟩
  obtain ⟨b, off, rfl, hlt, hcell⟩ := hp h0
  refine ⟨b, off, rfl, by rw [hw.size]; exact hlt, fun i hi => ?_⟩
  have hbg : b ≠ g := by
    intro e
    subst e
    have h1 := hcell i hi
    obtain ⟨hb, p', n', c', rfl⟩ := hb
    match hoi : off + i with
    | 0 => rw [hoi] at h1; simp [World.cell?, hb] at h1
    | 1 => rw [hoi] at h1; simp [World.cell?, hb] at h1
    | k + 2 => rw [hoi] at h1; simp [World.cell?, hb] at h1
  rw [World.cell?_of_block (w := w) (a := ⟨b, off + i, none⟩) (hw.block b hbg)]
  exact hcell i hi

theorem IsN.box {w : World} {v s : Value} {x : Int} {g : Nat} {neg : Bool} (h : IsN w v x) (hb : Bx w g neg s) {w' : World} (hw : But g w w') : IsN w' v x := by
  obtain ⟨n, zs, ⟨s', rfl, hs⟩, h2⟩ := h
  exact ⟨n, zs, ⟨s', rfl, hs.box hb hw⟩, h2⟩

theorem Bx.load {w : World} {g : Nat} {neg : Bool} {s : Value} (h : Bx w g neg s) : (loadVar 24 ⟨g, 0, none⟩).run Tryd.prog w = .ok (.agg #[.bool neg, s]) w := by
  obtain ⟨c0, c1, -⟩ := h.facts
  simp [loadVar, go_sem, c0, c1]

theorem results_box1 {fn : Func} {q : Tmp} (h : fn.results = #[.cell q 24]) (tmps : Array Value) (w : World) (g : Nat) (neg : Bool) (s : Value) (hq : tmps.getD q undef = .pointer (some ⟨g, 0, none⟩)) (hb : Bx w g neg s) :
    (results fn tmps).run Tryd.prog w = .ok (.agg #[.bool neg, s]) w := by
  have hl := hb.load
  simp only [Array.getD_eq_getD_getElem?] at hq
  simp only [results, h]
  simp [hq, asAddr, hl]

theorem results_box2 {fn : Func} {q u : Tmp} (h : fn.results = #[.cell q 24, .tmp u]) (tmps : Array Value) (w : World) (g : Nat) (neg : Bool) (s : Value) (hq : tmps.getD q undef = .pointer (some ⟨g, 0, none⟩)) (hb : Bx w g neg s) :
    (results fn tmps).run Tryd.prog w = .ok (.tuple #[.agg #[.bool neg, s], tmps.getD u undef]) w := by
  have hl := hb.load
  simp only [Array.getD_eq_getD_getElem?] at hq
  simp only [results, h]
  simp [hq, asAddr, hl]

/-- A number that may be is answered: x. -/
def NPost (w : World) (x : Int) (e : Ending) (w' : World) : Prop := ∃ v, e = .returned v ∧ IsN w' v x ∧ Below w.heap.size w w'

/-- Two boxes laid one behind the other: an argument's and the result's. -/
theorem boxes1 (w : World) (neg : Bool) (p : Option Addr) (n c : Nat) :
    Below w.heap.size w ((w.alloc (.cells #[.bool neg, .slice p n c] 24)).alloc (.cells #[.bool false, .slice none 0 0] 24)) ∧
    Bx ((w.alloc (.cells #[.bool neg, .slice p n c] 24)).alloc (.cells #[.bool false, .slice none 0 0] 24)) w.heap.size neg (.slice p n c) ∧
    Bx ((w.alloc (.cells #[.bool neg, .slice p n c] 24)).alloc (.cells #[.bool false, .slice none 0 0] 24)) (w.heap.size + 1) false (.slice none 0 0) := by
  refine ⟨((Below.refl w.heap.size w).alloc (Nat.le_refl _) _).alloc (by simp) _, (Bx.new w neg p n c).below ((Below.refl _ _).alloc (Nat.le_refl _) _) (by simp), ?_⟩
  have x1 := Bx.new (w.alloc (.cells #[.bool neg, .slice p n c] 24)) false none 0 0
  rwa [World.size_alloc] at x1

/-- Three boxes: two arguments' and the result's. -/
theorem boxes2 (w : World) (neg neg2 : Bool) (p p2 : Option Addr) (n c n2 c2 : Nat) :
    Below w.heap.size w (((w.alloc (.cells #[.bool neg, .slice p n c] 24)).alloc (.cells #[.bool neg2, .slice p2 n2 c2] 24)).alloc (.cells #[.bool false, .slice none 0 0] 24)) ∧
    Bx (((w.alloc (.cells #[.bool neg, .slice p n c] 24)).alloc (.cells #[.bool neg2, .slice p2 n2 c2] 24)).alloc (.cells #[.bool false, .slice none 0 0] 24)) w.heap.size neg (.slice p n c) ∧
    Bx (((w.alloc (.cells #[.bool neg, .slice p n c] 24)).alloc (.cells #[.bool neg2, .slice p2 n2 c2] 24)).alloc (.cells #[.bool false, .slice none 0 0] 24)) (w.heap.size + 1) neg2 (.slice p2 n2 c2) ∧
    Bx (((w.alloc (.cells #[.bool neg, .slice p n c] 24)).alloc (.cells #[.bool neg2, .slice p2 n2 c2] 24)).alloc (.cells #[.bool false, .slice none 0 0] 24)) (w.heap.size + 1 + 1) false (.slice none 0 0) := by
  refine ⟨(((Below.refl w.heap.size w).alloc (Nat.le_refl _) _).alloc (by simp) _).alloc (by simp; omega) _, ((Bx.new w neg p n c).below ((Below.refl _ _).alloc (Nat.le_refl _) _) (by simp)).below ((Below.refl _ _).alloc (Nat.le_refl _) _) (by simp; omega), ?_, ?_⟩
  · have x1 := (Bx.new (w.alloc (.cells #[.bool neg, .slice p n c] 24)) neg2 p2 n2 c2).below ((Below.refl _ _).alloc (Nat.le_refl _) (.cells #[.bool false, .slice none 0 0] 24)) (by simp)
    rwa [World.size_alloc] at x1
  · have x1 := Bx.new ((w.alloc (.cells #[.bool neg, .slice p n c] 24)).alloc (.cells #[.bool neg2, .slice p2 n2 c2] 24)) false none 0 0
    rwa [World.size_alloc, World.size_alloc] at x1

set_option maxHeartbeats 1000000 in
theorem taken_any (v : Value) (x : Int) (w : World) (h : Nx w v x) : Calls Tryd.prog 64 #[v] w fun e w' => NPost w x e w' := by
  obtain ⟨neg, zs, ⟨s, rfl, hs⟩, hv⟩ := h
  obtain ⟨p, c, rfl⟩ := hs.shape
  obtain ⟨hb1, x0, x1⟩ := boxes1 w neg p zs.length c
  by_cases hg : Good neg zs
  · go_enter Tryd.func64, Tryd.ntmps64
    go_wp2_with fail
    refine (check_yes neg _ zs _ (hs.below hb1) hg).mono ?_
    rintro e w1 ⟨rfl, hb2⟩
    have y0 := x0.below hb2 (by simp; omega)
    have y1 := x1.below hb2 (by simp)
    have hbw := hb1.trans (hb2.mono (by simp; omega))
    clear hb1 hb2 x0 x1
    obtain ⟨c0, c1, f0, f1, l0⟩ := y0.facts
    obtain ⟨d0, d1, g0, g1, l1⟩ := y1.facts
    go_wp2_with fail
    refine bodyPost_ret (results_box1 rfl _ _ (w.heap.size + 1) neg (.slice p zs.length c) rfl y1.set) rfl ?_
    refine ⟨_, rfl, ?_, hbw.trans ((setBx_but w1 (w.heap.size + 1) neg _).below (by omega))⟩
    exact ⟨neg, zs, ⟨_, rfl, (hs.below hbw).box y1 (setBx_but w1 (w.heap.size + 1) neg _)⟩, hg, by rw [← hv, val, if_pos hg]⟩
  · go_enter Tryd.func64, Tryd.ntmps64
    go_wp2_with fail
    refine (check_no neg _ zs _ (hs.below hb1) hg).mono ?_
    rintro e w1 ⟨rfl, hb2⟩
    have y0 := x0.below hb2 (by simp; omega)
    have y1 := x1.below hb2 (by simp)
    have hbw := hb1.trans (hb2.mono (by simp; omega))
    clear hb1 hb2 x0 x1
    obtain ⟨c0, c1, f0, f1, l0⟩ := y0.facts
    obtain ⟨d0, d1, g0, g1, l1⟩ := y1.facts
    go_wp2_with fail
    refine bodyPost_ret (results_box1 rfl _ _ (w.heap.size + 1) false (.slice none 0 0) rfl y1.set) rfl ?_
    refine ⟨_, rfl, ?_, hbw.trans ((setBx_but w1 (w.heap.size + 1) false _).below (by omega))⟩
    rw [← hv, val, if_neg hg]
    exact IsN.zero _

/-- signed's answer: that sign, but of no limb none; those limbs. -/
def SgPost (w : World) (neg : Bool) (zs : List Int) (e : Ending) (w' : World) : Prop := ∃ s, e = .returned (.agg #[.bool (neg && decide (0 < zs.length)), s]) ∧ Sl w' s zs ∧ Below w.heap.size w w'

set_option maxHeartbeats 1000000 in
theorem signed_any (neg : Bool) (s : Value) (zs : List Int) (w : World) (hs : Sl w s zs) :
    Calls Tryd.prog 101 #[.bool neg, s] w fun e w' => SgPost w neg zs e w' := by
  obtain ⟨p, c, rfl⟩ := hs.shape
  have hbw := fun n : Bool => (Below.refl w.heap.size w).alloc (Nat.le_refl _) (.cells #[.bool n, .slice p zs.length c] 24)
  cases neg
  · go_enter Tryd.func101, Tryd.ntmps101
    go_wp2_with fail
    refine bodyPost_ret (results_box1 rfl _ _ w.heap.size _ _ rfl (Bx.new w _ p zs.length c)) rfl ?_
    exact ⟨_, rfl, hs.below (hbw _), hbw _⟩
  · go_enter Tryd.func101, Tryd.ntmps101
    go_wp2_with fail
    refine bodyPost_ret (results_box1 rfl _ _ w.heap.size _ _ rfl (Bx.new w _ p zs.length c)) rfl ?_
    exact ⟨_, rfl, hs.below (hbw _), hbw _⟩

/-- A number, if it has room. -/
def fitS (z : Int) : Option Int := if -(B 12) < z ∧ z < B 12 then some z else none

/-- Op's answer: the number and true; 0 and false. -/
def OpPost (w : World) (r : Option Int) (e : Ending) (w' : World) : Prop := ∃ v, e = .returned (.tuple #[v, .bool r.isSome]) ∧ IsN w' v (r.getD 0) ∧ Below w.heap.size w w'

/-- A sign and a size without a 0 at its top: whether it may be. -/
theorem good_signed (neg : Bool) {zs : List Int} (hn : Nm zs) : Good (neg && decide (0 < zs.length)) zs ↔ zs.length ≤ 12 := by
  refine ⟨fun h => h.1, fun h => ⟨h, hn, ?_⟩⟩
  rintro rfl
  simp
theorem Z_signed (neg : Bool) (zs : List Int) : Z (neg && decide (0 < zs.length)) (V zs) = Z neg (V zs) := by
  cases zs with
  | nil => cases neg <;> rfl
  | cons z t => simp
theorem room_len {zs : List Int} (hok : Ok zs) (hn : Nm zs) : zs.length ≤ 12 ↔ V zs < B 12 := by
  constructor
  · intro h
    have := V_lt hok
    have := B_mono h
    omega
  · intro h
    by_cases h0 : zs.length ≤ 12
    · exact h0
    · have h1 := V_ge hok hn (by omega)
      have h2 := B_mono (show 12 ≤ zs.length - 1 by omega)
      omega
theorem fitS_Z (neg : Bool) {zs : List Int} (hok : Ok zs) : fitS (Z neg (V zs)) = if V zs < B 12 then some (Z neg (V zs)) else none := by
  have h0 := V_nonneg hok
  have hB := B_pos 12
  unfold fitS
  by_cases h : V zs < B 12
  · rw [if_pos h, if_pos (by cases neg <;> simp [Z] <;> omega)]
  · rw [if_neg h, if_neg (by cases neg <;> simp [Z] <;> omega)]

theorem SgPost.isN {w : World} {neg : Bool} {zs : List Int} {e : Ending} {w' : World} (h : SgPost w neg zs e w') (hn : Nm zs) (hl : zs.length ≤ 12) : NPost w (Z neg (V zs)) e w' := by
  obtain ⟨s, rfl, hs, hb⟩ := h
  exact ⟨_, rfl, ⟨_, zs, ⟨s, rfl, hs⟩, (good_signed neg hn).2 hl, Z_signed neg zs⟩, hb⟩

theorem setBx_eq (w : World) (g : Nat) (neg : Bool) (s : Value) : (w.setCell ⟨g, 0, none⟩ (.bool neg)).setCell ⟨g, 1, none⟩ s = setBx w g neg s := rfl

/-- For a region that draws: what a box holds, in whatever world that has turned nothing old. -/
theorem Bx.held {w w' : World} {g : Nat} {neg : Bool} {s : Value} (h : Bx w g neg s) (hb : Below w.heap.size w w') : w'.cell? ⟨g, 0, none⟩ = some (.bool neg) ∧ w'.cell? ⟨g, 1, none⟩ = some s := by
  obtain ⟨c0, c1, -, -, l⟩ := h.facts
  exact ⟨(hb.cell (p := ⟨g, 0, none⟩) l).trans c0, (hb.cell (p := ⟨g, 1, none⟩) l).trans c1⟩
theorem Bx.lt {w : World} {g : Nat} {neg : Bool} {s : Value} (h : Bx w g neg s) : g < w.heap.size := h.facts.2.2.2.2
theorem Bx.under {w w' : World} {g : Nat} {neg : Bool} {s : Value} (h : Bx w g neg s) (hb : Below w.heap.size w w') : Bx w' g neg s := h.below hb h.lt

/-- A number that signed has made, stored into the result's box. -/
theorem sg_end {w w4 : World} {g n c : Nat} {neg n0 : Bool} {s0 : Value} {p : Option Addr} {zs : List Int} (hB : Below w.heap.size w w4) (hu : Bx w4 g n0 s0) (hg : w.heap.size ≤ g) (t : Sl w4 (.slice p n c) zs) (hn : Nm zs) (hl : zs.length ≤ 12) :
    NPost w (Z neg (V zs)) (.returned (.agg #[.bool (neg && decide (0 < zs.length)), .slice p n c])) (setBx w4 g (neg && decide (0 < zs.length)) (.slice p n c)) :=
  ⟨_, rfl, ⟨_, zs, ⟨_, rfl, t.box hu (setBx_but _ _ _ _)⟩, (good_signed neg hn).2 hl, Z_signed neg zs⟩, hB.trans ((setBx_but _ _ _ _).below hg)⟩
theorem Z_not (n : Bool) (x : Int) : Z (!n) x = - Z n x := by cases n <;> simp [Z]
theorem run_fieldL (n : Bool) (p : Option Addr) (m c : Nat) (w : World) : (Instr.field 24 (.agg #[.bool n, .slice p m c]) 1).run Tryd.prog w = .ok (.slice p m c) w := by kernel_rfl
theorem run_fieldN (n : Bool) (p : Option Addr) (m c : Nat) (w : World) : (Instr.field 24 (.agg #[.bool n, .slice p m c]) 0).run Tryd.prog w = .ok (.bool n) w := by kernel_rfl

/-- Two boxes laid one behind the other: two arguments'. -/
theorem boxes2' (w : World) (neg neg2 : Bool) (p p2 : Option Addr) (n c n2 c2 : Nat) :
    Below w.heap.size w ((w.alloc (.cells #[.bool neg, .slice p n c] 24)).alloc (.cells #[.bool neg2, .slice p2 n2 c2] 24)) ∧
    Bx ((w.alloc (.cells #[.bool neg, .slice p n c] 24)).alloc (.cells #[.bool neg2, .slice p2 n2 c2] 24)) w.heap.size neg (.slice p n c) ∧
    Bx ((w.alloc (.cells #[.bool neg, .slice p n c] 24)).alloc (.cells #[.bool neg2, .slice p2 n2 c2] 24)) (w.heap.size + 1) neg2 (.slice p2 n2 c2) := by
  refine ⟨((Below.refl w.heap.size w).alloc (Nat.le_refl _) _).alloc (by simp) _, (Bx.new w neg p n c).below ((Below.refl _ _).alloc (Nat.le_refl _) _) (by simp), ?_⟩
  have x1 := Bx.new (w.alloc (.cells #[.bool neg, .slice p n c] 24)) neg2 p2 n2 c2
  rwa [World.size_alloc] at x1

theorem Bx.held3 {w w' : World} {g g' : Nat} {neg m : Bool} {s s' : Value} (h : Bx w g neg s) (hb : Below w.heap.size w w') (hne : g ≠ g') :
    ((w'.setCell ⟨g', 0, none⟩ (.bool m)).setCell ⟨g', 1, none⟩ s').cell? ⟨g, 0, none⟩ = some (.bool neg) ∧ ((w'.setCell ⟨g', 0, none⟩ (.bool m)).setCell ⟨g', 1, none⟩ s').cell? ⟨g, 1, none⟩ = some s :=
  ((h.under hb).other (setBx_but w' g' m s') hne).held (Below.refl _ _)
end Go.Proofs.YtnfnnngdbeplaaaDoor
