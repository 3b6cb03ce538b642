import Derived.Test.YtfcdocgjmgpmkaaDoorZNumA

/-
  num.sum: the sum of two numbers that may be, as a sign and limbs (it may have no room).
-/
namespace Go.Proofs.YtfcdocgjmgpmkaaDoor
open Go.RowKit
set_option linter.unusedVariables false
set_option linter.unusedSimpArgs false

/-- A sign and limbs without a 0 at their top are answered: z. -/
def RawPost (w : World) (z : Int) (e : Ending) (w' : World) : Prop := ∃ neg zs s, e = .returned (.agg #[.bool (neg && decide (0 < zs.length)), s]) ∧ Sl w' s zs ∧ Nm zs ∧ Z neg (V zs) = z ∧ Below w.heap.size w w'

theorem raw_end {w w4 : World} {g n c : Nat} {neg n0 : Bool} {s0 : Value} {p : Option Addr} {zs : List Int} {z : Int} (hB : Below w.heap.size w w4) (hu : Bx w4 g n0 s0) (hg : w.heap.size ≤ g) (t : Sl w4 (.slice p n c) zs) (hn : Nm zs) (hz : Z neg (V zs) = z) :
    RawPost w z (.returned (.agg #[.bool (neg && decide (0 < zs.length)), .slice p n c])) (setBx w4 g (neg && decide (0 < zs.length)) (.slice p n c)) :=
  ⟨neg, zs, _, rfl, t.box hu (setBx_but _ _ _ _), hn, hz, hB.trans ((setBx_but _ _ _ _).below hg)⟩

/-- What a walk has of an argument that may be. -/
theorem IsN.open {w : World} {v : Value} {x : Int} (h : IsN w v x) : ∃ n p zs c, v = .agg #[.bool n, .slice p (List.length zs) c] ∧ Sl w (.slice p zs.length c) zs ∧ Good n zs ∧ Z n (V zs) = x := by
  obtain ⟨n, zs, ⟨s, rfl, hs⟩, hg, hx⟩ := h
  obtain ⟨p, c, rfl⟩ := hs.shape
  exact ⟨n, p, zs, c, rfl, hs, hg, hx⟩

end Go.Proofs.YtfcdocgjmgpmkaaDoor


/-
  num.divide: the quotient, cut towards 0, or what is left of it; 0 and false, if the divisor is 0.
-/
namespace Go.Proofs.YtfcdocgjmgpmkaaDoor
open Go.RowKit
set_option linter.unusedVariables false
set_option linter.unusedSimpArgs false

/-- 4: the quotient; 5: what is left. -/
def divS (op x y : Int) : Option Int := if y = 0 then none else some (if op = 5 then x.tmod y else x.tdiv y)

theorem div_parts {a d q r : Int} (hd : 0 < d) (hr : 0 ≤ r) (h : q * d + r = a) (hl : r < d) : a.tdiv d = q ∧ a.tmod d = r ∨ a < 0 := by
  by_cases ha : a < 0
  · exact .inr ha
  · left
    have h1 : a / d = q := by
      rw [← h, Int.add_comm, Int.add_mul_ediv_right _ _ (by omega), Int.ediv_eq_zero_of_lt hr hl]; omega
    have h2 : a % d = r := by
      rw [← h, Int.add_comm, Int.add_mul_emod_self_right, Int.emod_eq_of_lt hr hl]
    exact ⟨by rw [Int.tdiv_eq_ediv_of_nonneg (by omega), h1], by rw [Int.tmod_eq_emod_of_nonneg (by omega), h2]⟩

theorem divS_quo {n1 n2 : Bool} {a d q r op : Int} (hop : op ≠ 5) (ha : 0 ≤ a) (hd : 0 < d) (hr : 0 ≤ r) (h : q * d + r = a) (hl : r < d) : divS op (Z n1 a) (Z n2 d) = some (Z (n1 != n2) q) := by
  have e := (div_parts hd hr h hl).resolve_right (by omega)
  unfold divS
  rw [if_neg (by cases n2 <;> simp [Z] <;> omega), if_neg hop]
  cases n1 <;> cases n2 <;> simp [Z, Int.neg_tdiv, Int.tdiv_neg, e.1]
theorem divS_rem {n1 n2 : Bool} {a d q r : Int} (ha : 0 ≤ a) (hd : 0 < d) (hr : 0 ≤ r) (h : q * d + r = a) (hl : r < d) : divS 5 (Z n1 a) (Z n2 d) = some (Z n1 r) := by
  have e := (div_parts hd hr h hl).resolve_right (by omega)
  unfold divS
  rw [if_neg (by cases n2 <;> simp [Z] <;> omega), if_pos rfl]
  cases n1 <;> cases n2 <;> simp [Z, Int.neg_tmod, Int.tmod_neg, e.2]
theorem quo_le {a d q r : Int} (hd : 0 < d) (hq : 0 ≤ q) (hr : 0 ≤ r) (h : q * d + r = a) : q ≤ a := by
  have : q * 1 ≤ q * d := Int.mul_le_mul_of_nonneg_left (by omega) hq
  omega

theorem op_end {w w4 : World} {g n c : Nat} {neg n0 b : Bool} {s0 : Value} {p : Option Addr} {zs : List Int} {r : Option Int} (hB : Below w.heap.size w w4) (hu : Bx w4 g n0 s0) (hg : w.heap.size ≤ g) (t : Sl w4 (.slice p n c) zs) (hn : Nm zs) (hl : zs.length ≤ 12) (hz : Z neg (V zs) = r.getD 0) (hb : b = r.isSome) :
    OpPost w r (.returned (.tuple #[.agg #[.bool (neg && decide (0 < zs.length)), .slice p n c], .bool b])) (setBx w4 g (neg && decide (0 < zs.length)) (.slice p n c)) := by
  subst hb
  exact ⟨_, rfl, ⟨_, zs, ⟨_, rfl, t.box hu (setBx_but _ _ _ _)⟩, (good_signed neg hn).2 hl, (Z_signed neg zs).trans hz⟩, hB.trans ((setBx_but _ _ _ _).below hg)⟩

end Go.Proofs.YtfcdocgjmgpmkaaDoor
