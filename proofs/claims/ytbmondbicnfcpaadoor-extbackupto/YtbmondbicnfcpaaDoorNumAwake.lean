
/-
  What the laws of layer 2 share: awake (the document's examples); a variable that holds a number.
-/
import Derived.Test.YtbmondbicnfcpaaDoorZNumD
namespace Go.Proofs.YtbmondbicnfcpaaDoor
open Go.RowKit
set_option linter.unusedVariables false

/-- A variable (a pointer to a box) that holds x. -/
def Var (w : World) (s : Value) (x : Int) : Prop := ∃ g n p z c, s = .pointer (some ⟨g, 0, none⟩) ∧ Bx w g n (.slice p (List.length z) c) ∧ Sl w (.slice p z.length c) z ∧ Good n z ∧ Z n (V z) = x

theorem Var.below {w w' : World} {s : Value} {x : Int} (h : Var w s x) (hb : Below w.heap.size w w') : Var w' s x := by
  obtain ⟨g, n, p, z, c, rfl, h1, h2, h3⟩ := h
  exact ⟨g, n, p, z, c, rfl, h1.under hb, h2.below hb, h3⟩

theorem decL_m1 : strOfNums (decL (-1)) = ⟨#[45, 49]⟩ := by
  have : dg (1 : Nat) = [49] := dg_small (by decide)
  simp [decL, this, strOfNums]
theorem decL_m4 : strOfNums (decL (-4)) = ⟨#[45, 52]⟩ := by
  have : dg (4 : Nat) = [52] := dg_small (by decide)
  simp [decL, this, strOfNums]
theorem opS_awake1 : opS 5 (-7) 2 = some (-1) := by decide +kernel
theorem opS_awake2 : opS 10 (-7) 1 = some (-4) := by decide +kernel

theorem Var.at {w : World} {g : Nat} {x : Int} (h : Var w (.pointer (some ⟨g, 0, none⟩)) x) : ∃ (n : Bool) (p : Option Addr) (z : List Int) (c : Nat), Bx w g n (.slice p z.length c) ∧ IsN w (.agg #[.bool n, .slice p z.length c]) x := by
  obtain ⟨g', n, p, z, c, he, h1, h2, h3, h4⟩ := h
  simp only [Value.pointer.injEq, Option.some.injEq, Addr.mk.injEq, and_true] at he
  subst he
  exact ⟨n, p, z, c, h1, n, z, ⟨_, rfl, h2⟩, h3, h4⟩

theorem Var.mk' {w : World} {g : Nat} {n : Bool} {p : Option Addr} {z : List Int} {c : Nat} {x : Int} (u : Bx w g n (.slice p z.length c)) (t : Sl w (.slice p z.length c) z) (hg : Good n z) (hx : Z n (V z) = x) : Var w (.pointer (some ⟨g, 0, none⟩)) x :=
  ⟨g, n, p, z, c, rfl, u, t, hg, hx⟩

/-- A new variable, laid behind the call that answers what it holds. -/
theorem Var.new {w : World} {n : Bool} {p : Option Addr} {z : List Int} {c : Nat} {x : Int} (t : Sl w (.slice p z.length c) z) (hg : Good n z) (hx : Z n (V z) = x) :
    Var (w.alloc (.cells #[.bool n, .slice p z.length c] 26)) (.pointer (some ⟨w.heap.size, 0, none⟩)) x :=
  ⟨w.heap.size, n, p, z, c, rfl, Bx.new w n p z.length c, t.below ((Below.refl _ _).alloc (Nat.le_refl _) _), hg, hx⟩
/-- A variable that was laid ahead of it, and stored into. -/
theorem Var.put {w : World} {g : Nat} {n m : Bool} {p : Option Addr} {z : List Int} {c : Nat} {x : Int} {s : Value} (u : Bx w g m s) (t : Sl w (.slice p z.length c) z) (hg : Good n z) (hx : Z n (V z) = x) :
    Var (setBx w g n (.slice p z.length c)) (.pointer (some ⟨g, 0, none⟩)) x :=
  ⟨g, n, p, z, c, rfl, u.set, t.box u (setBx_but _ _ _ _), hg, hx⟩
theorem Var.keep {w w' : World} {s : Value} {x : Int} {g : Nat} {m : Bool} {s' : Value} (h : Var w s x) (u : Bx w g m s') (hb : But g w w') (hne : s ≠ .pointer (some ⟨g, 0, none⟩)) : Var w' s x := by
  obtain ⟨g', n, p, z, c, rfl, h1, h2, h3⟩ := h
  refine ⟨g', n, p, z, c, rfl, h1.other hb ?_, h2.box u hb, h3⟩
  intro e
  subst e
  exact hne rfl

/-- A box of 0 laid in a region that draws. -/
def zbox : Obj := .cells #[.bool false, .slice none 0 0] 26
theorem laid_below {w wO : World} (b : Below (w.alloc zbox).drew.heap.size (w.alloc zbox).drew wO) : Below w.heap.size w wO :=
  ((Below.refl w.heap.size w).alloc (Nat.le_refl _) zbox).drew.trans (b.mono (by show w.heap.size ≤ (w.alloc zbox).heap.size; simp))
theorem laid_box {w wO : World} (b : Below (w.alloc zbox).drew.heap.size (w.alloc zbox).drew wO) : Bx wO w.heap.size false (.slice none 0 0) :=
  (Bx.new w false none 0 0).below (w := w.alloc zbox) (w' := wO) (B := (w.alloc zbox).heap.size) (((Below.refl _ _).drew).trans b) (by simp)
theorem laid_below2 {w0 w wO : World} (h : Below w0.heap.size w0 w) (b : Below (w.alloc zbox).heap.size (w.alloc zbox) wO) : Below w0.heap.size w0 wO :=
  (h.alloc h.size zbox).trans (b.mono (by have := h.size; simp; omega))
theorem laid_box2 {w wO : World} (b : Below (w.alloc zbox).heap.size (w.alloc zbox) wO) : Bx wO w.heap.size false (.slice none 0 0) :=
  (Bx.new w false none 0 0).below b (by simp)
theorem ptr_ne {g g' : Nat} (h : g ≠ g') : Value.pointer (some ⟨g, 0, none⟩) ≠ .pointer (some ⟨g', 0, none⟩) := by
  intro e
  injection e with e
  injection e with e
  injection e with e
  exact h e
/-- A mark: so many calls of a region have been met. -/
def Tok (_ : Nat) : Prop := True
end Go.Proofs.YtbmondbicnfcpaaDoor
