/-
  What the laws of layer 2 share: awake (the document's examples); a variable that holds a number.
-/
import Derived.Test.YtmhcgdigccaogaaNumText
namespace Go.Proofs.Ytmhcgdigccaogaa
open Go.RowKit
set_option linter.unusedVariables false

/-- A variable (a pointer to a box) that holds x. -/
def Var (w : World) (s : Value) (x : Int) : Prop := ∃ g n p z c, s = .pointer (some ⟨g, 0, none⟩) ∧ Bx w g n (.slice p (List.length z) c) ∧ Sl w (.slice p z.length c) z ∧ Good n z ∧ Z n (V z) = x

theorem Var.below {w w' : World} {s : Value} {x : Int} (h : Var w s x) (hb : Below w.heap.size w w') : Var w' s x := by
  obtain ⟨g, n, p, z, c, rfl, h1, h2, h3⟩ := h
  exact ⟨g, n, p, z, c, rfl, h1.under hb, h2.below hb, h3⟩

theorem decL_m1 : strOfNums (decL (-1)) = ⟨#[45, 49]⟩ := by
  have : dg (1 : Nat) = [49] := dg_small (by decide)
  simp [decL, this, strOfNums]
theorem decL_m4 : strOfNums (decL (-4)) = ⟨#[45, 52]⟩ := by
  have : dg (4 : Nat) = [52] := dg_small (by decide)
  simp [decL, this, strOfNums]
theorem opS_awake1 : opS 5 (-7) 2 = some (-1) := by decide +kernel
theorem opS_awake2 : opS 10 (-7) 1 = some (-4) := by decide +kernel

set_option maxHeartbeats 4000000 in
theorem awake_any (w : World) : Calls Try.prog 6 #[] w fun e w' => e = .returned (.bool true) ∧ Below w.heap.size w w' := by
  go_enter Try.func6, Try.ntmps6
  go_wp2_with fail
  refine (of_any (-7) _ (by decide) (by decide)).mono ?_
  rintro e w1 ⟨v1, rfl, i1, b1⟩
  go_wp2_with fail
  refine (of_any 2 _ (by decide) (by decide)).mono ?_
  rintro e w2 ⟨v2, rfl, i2, b2⟩
  have B2 := b1.trans (b2.mono b1.size)
  go_wp2_with fail
  refine (op_any 5 _ _ (-7) 2 _ (i1.below b2).nx i2.nx).mono ?_
  rw [opS_awake1]
  rintro e w3 ⟨v3, rfl, i3, b3⟩
  have B3 := B2.trans (b3.mono B2.size)
  obtain ⟨n3, p3, z3, c3, rfl, t3, g3, x3⟩ := i3.open
  clear i1 i2 b1 b2 b3 B2
  have i3' : Hid (IsN w3 (.agg #[.bool n3, .slice p3 z3.length c3]) (-1)) := i3
  clear i3 t3 g3 x3
  go_wp2_with fail
  have hb := (Below.refl w3.heap.size w3).alloc (Nat.le_refl _) (.cells #[.bool n3, .slice p3 z3.length c3] 24)
  have u3 := Bx.new w3 n3 p3 z3.length c3
  have B4 := B3.trans (hb.mono B3.size)
  have j3 := i3'.out.below hb
  clear hb i3' B3
  generalize w3.alloc (.cells #[.bool n3, .slice p3 z3.length c3] 24) = w4 at *
  refine (of_any (-7) _ (by decide) (by decide)).mono ?_
  rintro e w5 ⟨v5, rfl, i5, b5⟩
  go_wp2_with fail
  refine (of_any 1 _ (by decide) (by decide)).mono ?_
  rintro e w6 ⟨v6, rfl, i6, b6⟩
  have B6 := b5.trans (b6.mono b5.size)
  go_wp2_with fail
  refine (op_any 10 _ _ (-7) 1 _ (i5.below b6).nx i6.nx).mono ?_
  rw [opS_awake2]
  rintro e w7 ⟨v7, rfl, i7, b7⟩
  have B7 := B6.trans (b7.mono B6.size)
  obtain ⟨n7, p7, z7, c7, rfl, t7, g7, x7⟩ := i7.open
  have k3 := j3.below B7
  have u37 := u3.under B7
  have B8 := B4.trans (B7.mono B4.size)
  have hb := (Below.refl w7.heap.size w7).alloc (Nat.le_refl _) (.cells #[.bool n7, .slice p7 z7.length c7] 24)
  have u7 := Bx.new w7 n7 p7 z7.length c7
  have u3' := u37.under hb
  have m3 := k3.below hb
  have m7 : IsN (w7.alloc (.cells #[.bool n7, .slice p7 z7.length c7] 24)) (.agg #[.bool n7, .slice p7 z7.length c7]) (-4) := i7.below hb
  have B9 := B8.trans (hb.mono B8.size)
  obtain ⟨q0, q1, -⟩ := u3'.facts
  obtain ⟨r0, r1, -⟩ := u7.facts
  clear i5 i6 i7 b5 b6 b7 B6 B7 j3 k3 B4 B8 hb t7 g7 x7 u3 u37
  go_wp2_with fail
  refine (text_any _ (-1) _ m3.nx).mono ?_
  rintro e wa ⟨rfl, ba⟩
  rw [decL_m1]
  have u7a := u7.under ba
  have m7a := m7.below ba
  have Ba := B9.trans (ba.mono B9.size)
  obtain ⟨s0, s1, -⟩ := u7a.facts
  clear q0 q1 r0 r1 B9 ba u7 u3' m7 m3
  go_wp2_with fail
  refine (text_any _ (-4) _ m7a.nx).mono ?_
  rintro e wb ⟨rfl, bb⟩
  rw [decL_m4]
  have Bb := Ba.trans (bb.mono Ba.size)
  clear Ba bb u7a m7a s0 s1
  go_wp2_with fail
  go_ret
  exact ⟨rfl, Bb⟩

theorem Var.at {w : World} {g : Nat} {x : Int} (h : Var w (.pointer (some ⟨g, 0, none⟩)) x) : ∃ (n : Bool) (p : Option Addr) (z : List Int) (c : Nat), Bx w g n (.slice p z.length c) ∧ IsN w (.agg #[.bool n, .slice p z.length c]) x := by
  obtain ⟨g', n, p, z, c, he, h1, h2, h3, h4⟩ := h
  simp only [Value.pointer.injEq, Option.some.injEq, Addr.mk.injEq, and_true] at he
  subst he
  exact ⟨n, p, z, c, h1, n, z, ⟨_, rfl, h2⟩, h3, h4⟩

theorem Var.mk' {w : World} {g : Nat} {n : Bool} {p : Option Addr} {z : List Int} {c : Nat} {x : Int} (u : Bx w g n (.slice p z.length c)) (t : Sl w (.slice p z.length c) z) (hg : Good n z) (hx : Z n (V z) = x) : Var w (.pointer (some ⟨g, 0, none⟩)) x :=
  ⟨g, n, p, z, c, rfl, u, t, hg, hx⟩

/-- A new variable, laid behind the call that answers what it holds. -/
theorem Var.new {w : World} {n : Bool} {p : Option Addr} {z : List Int} {c : Nat} {x : Int} (t : Sl w (.slice p z.length c) z) (hg : Good n z) (hx : Z n (V z) = x) :
    Var (w.alloc (.cells #[.bool n, .slice p z.length c] 24)) (.pointer (some ⟨w.heap.size, 0, none⟩)) x :=
  ⟨w.heap.size, n, p, z, c, rfl, Bx.new w n p z.length c, t.below ((Below.refl _ _).alloc (Nat.le_refl _) _), hg, hx⟩
/-- A variable that was laid ahead of it, and stored into. -/
theorem Var.put {w : World} {g : Nat} {n m : Bool} {p : Option Addr} {z : List Int} {c : Nat} {x : Int} {s : Value} (u : Bx w g m s) (t : Sl w (.slice p z.length c) z) (hg : Good n z) (hx : Z n (V z) = x) :
    Var (setBx w g n (.slice p z.length c)) (.pointer (some ⟨g, 0, none⟩)) x :=
  ⟨g, n, p, z, c, rfl, u.set, t.box u (setBx_but _ _ _ _), hg, hx⟩
theorem Var.keep {w w' : World} {s : Value} {x : Int} {g : Nat} {m : Bool} {s' : Value} (h : Var w s x) (u : Bx w g m s') (hb : But g w w') (hne : s ≠ .pointer (some ⟨g, 0, none⟩)) : Var w' s x := by
  obtain ⟨g', n, p, z, c, rfl, h1, h2, h3⟩ := h
  refine ⟨g', n, p, z, c, rfl, h1.other hb ?_, h2.box u hb, h3⟩
  intro e
  subst e
  exact hne rfl

/-- A box of 0 laid in a region that draws. -/
def zbox : Obj := .cells #[.bool false, .slice none 0 0] 24
theorem laid_below {w wO : World} (b : Below (w.alloc zbox).drew.heap.size (w.alloc zbox).drew wO) : Below w.heap.size w wO :=
  ((Below.refl w.heap.size w).alloc (Nat.le_refl _) zbox).drew.trans (b.mono (by show w.heap.size ≤ (w.alloc zbox).heap.size; simp))
theorem laid_box {w wO : World} (b : Below (w.alloc zbox).drew.heap.size (w.alloc zbox).drew wO) : Bx wO w.heap.size false (.slice none 0 0) :=
  (Bx.new w false none 0 0).below (w := w.alloc zbox) (w' := wO) (B := (w.alloc zbox).heap.size) (((Below.refl _ _).drew).trans b) (by simp)
theorem laid_below2 {w0 w wO : World} (h : Below w0.heap.size w0 w) (b : Below (w.alloc zbox).heap.size (w.alloc zbox) wO) : Below w0.heap.size w0 wO :=
  (h.alloc h.size zbox).trans (b.mono (by have := h.size; simp; omega))
theorem laid_box2 {w wO : World} (b : Below (w.alloc zbox).heap.size (w.alloc zbox) wO) : Bx wO w.heap.size false (.slice none 0 0) :=
  (Bx.new w false none 0 0).below b (by simp)
theorem ptr_ne {g g' : Nat} (h : g ≠ g') : Value.pointer (some ⟨g, 0, none⟩) ≠ .pointer (some ⟨g', 0, none⟩) := by
  intro e
  injection e with e
  injection e with e
  injection e with e
  exact h e
/-- A mark: so many calls of a region have been met. -/
def Tok (_ : Nat) : Prop := True
end Go.Proofs.Ytmhcgdigccaogaa
