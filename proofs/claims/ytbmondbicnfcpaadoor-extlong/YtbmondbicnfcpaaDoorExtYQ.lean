
/-
  ext: what shut leaves, and its term laid into its box.
-/
import Derived.Test.YtbmondbicnfcpaaDoorExtYP
namespace Go.Proofs.YtbmondbicnfcpaaDoor
open Go.RowKit
set_option linter.unusedVariables false
set_option linter.unusedSimpArgs false

/-- Behind a store into the term's box all stands. -/
theorem InI.lay {W0 wr w' : World} {B g gr gt p n : Nat} {bv ov tv : Value} {hs : List Ho} {P : Nat → Bool} {t : Tm} {k : Int} {ng : Bool} {sl : Value} {S : ByteArray} {N : Int} {sk : Value}
    (hI : InI W0 B g gr gt bv p n hs ov P t tv wr) (hb : Bt wr gt k ng sl S N sk) (hgB : g < gr) (hgr : gr < B) (hWg : W0.heap.size ≤ g) (hG : (0 : Nat) < W0.heap.size) (hu : But gt wr w') : InI W0 B g gr gt bv p n hs ov P t tv w' := by
  obtain ⟨hx, ⟨i1, i2, i3, i4, i5, i6, i7, i8⟩, hbr, hit, hPt, hne, hBt⟩ := hI
  have hov : ov.ownBlock ≠ some gt := fun e => by
    obtain ⟨-, -, cur, h3⟩ := i3.lt gt e
    rw [hb.1] at h3
    injection h3 with h3
    injection h3 with _ e2 _
    exact absurd e2 (by decide)
  have hPn : ∀ b, P b = true → b ≠ gt := fun b h1 e => by rw [e, hPt] at h1; cases h1
  have s1 := i1.size
  refine ⟨hx.block (hu.block g (by omega)), ⟨i1.trans (hu.below (by omega)), ?_, i3.see (fun b h1 => hu.block b (fun e => hov (by rw [← e]; exact h1))), fun x hx2 => ⟨(i4 x hx2).1.see (fun b h1 => hu.block b (fun e => hne x hx2 (by rw [← e]; exact h1))), fun q hq => ((i4 x hx2).2 q hq).veiled (Nat.le_of_eq hu.size.symm) (fun b h1 _ => ⟨hu.block b (hPn b h1), h1⟩)⟩, fun b h1 => by rw [hu.size]; exact i5 b h1, i6, i7, i8⟩, hbr.other hu (by omega), hit.veiled (Nat.le_of_eq hu.size.symm) (fun b h1 _ => ⟨hu.block b (hPn b h1), h1⟩), hPt, hne, hBt⟩
  intro j u hj
  rw [World.cell?_of_block (w := wr) (hu.block _ (show (0 : Nat) ≠ gt by omega))]
  exact i2 j u hj

/-- What shut leaves. -/
theorem in_shut {W0 wc w' : World} {B g gr gt p n : Nat} {bv ov ov' tv v' : Value} {hs : List Ho} {h : Ho} {P P' : Nat → Bool} {t t' : Tm} {k : Int} {ng : Bool} {sl : Value} {S : ByteArray} {N : Int} {sk : Value}
    (hI : InI W0 B g gr gt bv p n (hs ++ [h]) ov P t tv wc) (hb : Bt wc gt k ng sl S N sk) (hgB : g < gr) (hgr : gr < B) (h1 : Grw g wc w') (h2 : RdX w' g bv p n ov') (h3 : StI W0 B g hs ov' P' w') (h4 : IsT (veil P' w') t' v')
    (h5 : ∀ b, b < wc.heap.size → P' b = true → P b = true ∨ h.pv.ownBlock = some b) : InI W0 B g gr gt bv p n hs ov' P' t' v' w' ∧ Bt w' gt k ng sl S N sk := by
  obtain ⟨hx, hst, hbr, hit, hPt, hne, hBt⟩ := hI
  refine ⟨⟨h2, h3, hbr.grw h1 (by omega), h4, ?_, fun x hx2 => hne x (List.mem_append_left _ hx2), hBt⟩, hb.grw h1 (by omega)⟩
  cases hP : P' gt with
  | false => rfl
  | true =>
    rcases h5 gt hb.lt hP with h6 | h6
    · rw [hPt] at h6; cases h6
    · exact absurd h6 (hne h (by simp))
theorem StI.drew {W0 : World} {B g : Nat} {hs : List Ho} {ov : Value} {P : Nat → Bool} {w : World} (h : StI W0 B g hs ov P w) (hgB : g < B) (hW : W0.heap.size ≤ g) : StI W0 B g hs ov P w.drew :=
  h.grw hgB hW h.2.1 (Grw.refl g w).drew (fun b hb => hb) h.2.2.2.2.1 h.2.2.2.2.2.1 h.2.2.2.2.2.2.1
theorem RoI.drew {W0 : World} {B g gr : Nat} {bv : Value} {L p n : Nat} {hs : List Ho} {ov : Value} {P : Nat → Bool} {w : World} (h : RoI W0 B g gr bv L p n hs ov P w) (hgB : g < B) (hW : W0.heap.size ≤ g) : RoI W0 B g gr bv L p n hs ov P w.drew := by
  obtain ⟨h1, h2, h3, h4⟩ := h
  exact ⟨h1.drew, h2.drew hgB hW, h3.drew, h4⟩
theorem InI.drew {W0 : World} {B g gr gt : Nat} {bv : Value} {p n : Nat} {hs : List Ho} {ov : Value} {P : Nat → Bool} {t : Tm} {tv : Value} {w : World} (h : InI W0 B g gr gt bv p n hs ov P t tv w) (hgB : g < B) (hW : W0.heap.size ≤ g) : InI W0 B g gr gt bv p n hs ov P t tv w.drew := by
  obtain ⟨h1, h2, h3, h4, h5⟩ := h
  exact ⟨h1.drew, h2.drew hgB hW, h3.drew, h4.veiled (Nat.le_refl _) (fun b hb _ => ⟨rfl, hb⟩), h5⟩
end Go.Proofs.YtbmondbicnfcpaaDoor
