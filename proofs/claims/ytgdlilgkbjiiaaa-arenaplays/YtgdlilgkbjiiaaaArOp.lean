
/-
  relictlaw11.Op: a script of calls in memory.
-/
import Derived.Test.YtgdlilgkbjiiaaaArS
namespace Go.Proofs.Ytgdlilgkbjiiaaa
open Go.RowKit
set_option linter.unusedVariables false
set_option linter.unusedSimpArgs false

/-- A call: its kind, its number, its word. -/
def Cl := Int × Int × Int
def Cl.ok (c : Cl) : Prop := (-9223372036854775808 ≤ c.1 ∧ c.1 ≤ 9223372036854775807) ∧ (-9223372036854775808 ≤ c.2.1 ∧ c.2.1 ≤ 9223372036854775807) ∧ 0 ≤ c.2.2 ∧ c.2.2 < 18446744073709551616
def At3c (w : World) (b off : Nat) (c : Cl) : Prop := w.cell? ⟨b, off, none⟩ = some (.int .i64 c.1) ∧ w.cell? ⟨b, off + 1, none⟩ = some (.int .i64 c.2.1) ∧ w.cell? ⟨b, off + 2, none⟩ = some (.int .u64 c.2.2)
/-- The slice v has in w these calls. -/
def Sc (w : World) (v : Value) (L : List Cl) : Prop :=
  (∀ c ∈ L, c.ok) ∧ ∃ a cap, v = .slice a L.length cap ∧ L.length ≤ cap ∧ cap ≤ 9223372036854775807 ∧ (a = none → cap = 0) ∧
    (0 < L.length → ∃ b off, a = some ⟨b, off, none⟩ ∧ b < w.heap.size ∧ ∀ i (h : i < L.length), At3c w b (off + i * 3) L[i])
theorem Sc.nil (w : World) : Sc w (.slice none 0 0) [] := ⟨fun c h => by simp at h, none, 0, rfl, Nat.le_refl _, by decide, fun _ => rfl, fun h => absurd h (by decide)⟩
theorem Sc.shape {w : World} {v : Value} {l : List Cl} (h : Sc w v l) : ∃ a cap, v = .slice a l.length cap ∧ l.length ≤ cap ∧ (cap : Int) ≤ 9223372036854775807 := by
  obtain ⟨_, a, cap, rfl, h1, h2, h3, _⟩ := h
  exact ⟨a, cap, rfl, h1, by omega⟩
theorem Sc.under {w w' : World} {v : Value} {l : List Cl} (h : Sc w v l) (hb : Below w.heap.size w w') : Sc w' v l := by
  obtain ⟨hs, a, cap, rfl, hl, hc, hn, hp⟩ := h
  refine ⟨hs, a, cap, rfl, hl, hc, hn, fun h0 => ?_⟩
  obtain ⟨b, off, rfl, hlt, hcell⟩ := hp h0
  refine ⟨b, off, rfl, Nat.lt_of_lt_of_le hlt hb.size, fun i hi => ⟨?_, ?_, ?_⟩⟩
  · rw [hb.cell (p := ⟨b, off + i * 3, none⟩) hlt]; exact (hcell i hi).1
  · rw [hb.cell (p := ⟨b, off + i * 3 + 1, none⟩) hlt]; exact (hcell i hi).2.1
  · rw [hb.cell (p := ⟨b, off + i * 3 + 2, none⟩) hlt]; exact (hcell i hi).2.2
theorem Sc.at {w : World} {a : Option Addr} {n cap : Nat} {l : List Cl} (h : Sc w (.slice a n cap) l) (k : Nat) (hk : k < l.length) :
    ∃ (b off : Nat) (c : Cl), a = some ⟨b, off, none⟩ ∧ c.ok ∧ At3c w b (off + k * 3) c := by
  obtain ⟨hs, a', cap', he, _, _, _, hp⟩ := h
  injection he with e1 e2 e3
  subst e1; subst e2; subst e3
  obtain ⟨b, off, rfl, hlt, hc⟩ := hp (by omega)
  exact ⟨b, off, _, rfl, hs _ (List.getElem_mem hk), hc k hk⟩
end Go.Proofs.Ytgdlilgkbjiiaaa
