import Derived.KernelRfl
import Derived.Test.YtbmondbicnfcpaaDoorProg
import Derived.WalkKit
import Derived.WalkSpells
import Derived.WalkLawsBesides
import Derived.Laws.CopyOwn
import Derived.Deep.QuietTactic
import Derived.BigQuiet
import Derived.Lib.BitFns
/-
  Plain mathematics of numbers by limbs of 32 bits: nothing of the program in it. V is a list's number, B n is 2^32 to the n.
-/
namespace Go.Proofs.YtbmondbicnfcpaaDoor

/-- A list's number: limbs of 32 bits, the lowest first. -/
def V : List Int → Int
  | [] => 0
  | z :: t => z + 4294967296 * V t

/-- 2^32 to the n. -/
def B : Nat → Int
  | 0 => 1
  | n + 1 => 4294967296 * B n

/-- Each limb fits. -/
def Ok (zs : List Int) : Prop := ∀ z ∈ zs, 0 ≤ z ∧ z < 4294967296

/-- No 0 at the top. -/
def Nm (zs : List Int) : Prop := 0 < zs.length → zs.getD (zs.length - 1) 0 ≠ 0

theorem B_pos (n : Nat) : 0 < B n := by
  induction n with
  | zero => decide
  | succ n ih => simp only [B]; omega

theorem B_add (m n : Nat) : B (m + n) = B m * B n := by
  induction m with
  | zero => simp [B]
  | succ m ih => rw [Nat.succ_add]; simp only [B]; rw [ih, Int.mul_assoc]

theorem B_mono {m n : Nat} (h : m ≤ n) : B m ≤ B n := by
  induction n with
  | zero => obtain rfl : m = 0 := by omega
            exact Int.le_refl _
  | succ n ih =>
    by_cases e : m = n + 1
    · subst e; exact Int.le_refl _
    · have h1 := ih (by omega)
      have h2 := B_pos n
      simp only [B]; omega

theorem V_append (a b : List Int) : V (a ++ b) = V a + B a.length * V b := by
  induction a with
  | nil => simp [V, B]
  | cons z t ih => simp only [List.cons_append, V, ih, List.length_cons, B]; rw [Int.mul_add, Int.mul_assoc]; omega

theorem Ok.cons {z : Int} {t : List Int} (h : Ok (z :: t)) : (0 ≤ z ∧ z < 4294967296) ∧ Ok t :=
  ⟨h z (by simp), fun y hy => h y (by simp [hy])⟩

theorem Ok.append {a b : List Int} (ha : Ok a) (hb : Ok b) : Ok (a ++ b) := by
  intro z hz
  rcases List.mem_append.1 hz with h | h
  · exact ha z h
  · exact hb z h

theorem Ok.take {a : List Int} (ha : Ok a) (k : Nat) : Ok (a.take k) := fun z hz => ha z (List.mem_of_mem_take hz)
theorem Ok.drop {a : List Int} (ha : Ok a) (k : Nat) : Ok (a.drop k) := fun z hz => ha z (List.mem_of_mem_drop hz)
theorem Ok.nil : Ok [] := fun z hz => by cases hz
theorem Ok.rep (n : Nat) : Ok (List.replicate n 0) := by
  intro z hz
  rw [List.mem_replicate] at hz
  omega

theorem Ok.getD {a : List Int} (ha : Ok a) (k : Nat) : 0 ≤ a.getD k 0 ∧ a.getD k 0 < 4294967296 := by
  by_cases h : k < a.length
  · have e : a.getD k 0 = a[k] := by simp [List.getD, h]
    rw [e]; exact ha _ (List.getElem_mem h)
  · have e : a.getD k 0 = 0 := by simp [List.getD, h]
    rw [e]; omega

theorem Ok.opt {a : List Int} (ha : Ok a) (k : Nat) : 0 ≤ a[k]?.getD 0 ∧ a[k]?.getD 0 < 4294967296 := by
  have := ha.getD k
  rwa [List.getD_eq_getElem?_getD] at this

theorem Ok.set {a : List Int} (ha : Ok a) (k : Nat) {z : Int} (h0 : 0 ≤ z) (h1 : z < 4294967296) : Ok (a.set k z) := by
  intro y hy
  rcases List.mem_or_eq_of_mem_set hy with h | h
  · exact ha y h
  · subst h; exact ⟨h0, h1⟩

theorem V_nonneg {a : List Int} (ha : Ok a) : 0 ≤ V a := by
  induction a with
  | nil => simp [V]
  | cons z t ih =>
    have h := ha.cons
    have := ih h.2
    simp only [V]; omega

theorem V_lt {a : List Int} (ha : Ok a) : V a < B a.length := by
  induction a with
  | nil => simp [V, B]
  | cons z t ih =>
    have h := ha.cons
    have := ih h.2
    simp only [V, List.length_cons, B]; omega

theorem V_rep (n : Nat) : V (List.replicate n 0) = 0 := by
  induction n with
  | zero => rfl
  | succ n ih => rw [List.replicate_succ]; simp only [V, ih]; omega

theorem V_zeros {a : List Int} (h : ∀ i, i < a.length → a.getD i 0 = 0) : V a = 0 := by
  induction a with
  | nil => rfl
  | cons z t ih =>
    have h0 := h 0 (by simp)
    have ht := ih (fun i hi => by have := h (i + 1) (by simp; omega); simpa using this)
    simp at h0
    simp only [V, ht, h0]; omega

theorem V_split (a : List Int) (k : Nat) (h : k ≤ a.length) : V a = V (a.take k) + B k * V (a.drop k) := by
  have e := V_append (a.take k) (a.drop k)
  rw [List.take_append_drop] at e
  rw [e, List.length_take, Nat.min_eq_left h]

theorem V_take_succ (a : List Int) (k : Nat) (h : k < a.length) : V (a.take (k + 1)) = V (a.take k) + B k * a.getD k 0 := by
  rw [List.take_succ_eq_append_getElem h, V_append]
  have e : a.getD k 0 = a[k] := by simp [List.getD, h]
  rw [e, List.length_take, Nat.min_eq_left (Nat.le_of_lt h)]
  simp [V]

theorem V_drop (a : List Int) (k : Nat) (h : k < a.length) : V (a.drop k) = a.getD k 0 + 4294967296 * V (a.drop (k + 1)) := by
  rw [List.drop_eq_getElem_cons h]
  have e : a.getD k 0 = a[k] := by simp [List.getD, h]
  rw [e]; rfl

/-- Numbers with no 0 at the top are at least as great as their length says. -/
theorem V_ge {a : List Int} (ha : Ok a) (hn : Nm a) (h0 : 0 < a.length) : B (a.length - 1) ≤ V a := by
  have hs := V_split a (a.length - 1) (by omega)
  have hd := V_drop a (a.length - 1) (by omega)
  have hz : a.drop (a.length - 1 + 1) = [] := by apply List.drop_eq_nil_of_le; omega
  rw [hz] at hd
  have hne := hn h0
  have hb := ha.getD (a.length - 1)
  have ht := V_nonneg (ha.take (a.length - 1))
  simp only [V] at hd
  have h1 : 1 ≤ V (a.drop (a.length - 1)) := by omega
  have h2 := Int.mul_le_mul_of_nonneg_left h1 (Int.le_of_lt (B_pos (a.length - 1)))
  omega

theorem lt_of_V {a b : List Int} (ha : Ok a) (hb : Ok b) (hnb : Nm b) (h : a.length < b.length) : V a < V b := by
  have h1 := V_lt ha
  have h2 := V_ge hb hnb (by omega)
  have h3 := B_mono (show a.length ≤ b.length - 1 by omega)
  omega

/-- A number of no 0 at its top has one list. -/
theorem V_inj {a b : List Int} (ha : Ok a) (hb : Ok b) (hl : a.length = b.length) (h : V a = V b) : a = b := by
  induction a generalizing b with
  | nil => cases b with
    | nil => rfl
    | cons y u => simp at hl
  | cons z t ih =>
    cases b with
    | nil => simp at hl
    | cons y u =>
      have h1 := ha.cons
      have h2 := hb.cons
      simp only [V] at h
      have e : z = y := by omega
      have e2 : V t = V u := by omega
      rw [e, ih h1.2 h2.2 (by simpa using hl) e2]

theorem Nm_inj {a b : List Int} (ha : Ok a) (hb : Ok b) (na : Nm a) (nb : Nm b) (h : V a = V b) : a = b := by
  refine V_inj ha hb ?_ h
  rcases Nat.lt_trichotomy a.length b.length with h1 | h1 | h1
  · have := lt_of_V ha hb nb h1; omega
  · exact h1
  · have := lt_of_V hb ha na h1; omega

theorem Nm_nil : Nm [] := fun h => by simp at h

/-- What is 0 has no limb. -/
theorem len_zero {a : List Int} (ha : Ok a) (na : Nm a) (h : V a = 0) : a = [] :=
  Nm_inj ha Ok.nil na Nm_nil (by simpa [V] using h)

theorem V_trim (a : List Int) (n : Nat) (hn : n ≤ a.length) (h : ∀ i, n ≤ i → i < a.length → a.getD i 0 = 0) : V (a.take n) = V a := by
  rw [V_split a n hn]
  have : V (a.drop n) = 0 := by
    apply V_zeros
    intro i hi
    have := h (n + i) (by omega) (by simp at hi; omega)
    simpa [List.getD] using this
  rw [this]; omega

theorem Nm_take (a : List Int) (n : Nat) (hn : n ≤ a.length) (h : 0 < n → a.getD (n - 1) 0 ≠ 0) : Nm (a.take n) := by
  intro h0
  have e : (a.take n).length = n := by simp; omega
  rw [e] at h0 ⊢
  have := h h0
  simpa [List.getD, show n - 1 < n by omega] using this

theorem V_set (a : List Int) (k : Nat) (z : Int) (h : k < a.length) : V (a.set k z) = V a + B k * (z - a.getD k 0) := by
  have s1 := V_split a k (by omega)
  have s2 := V_drop a k h
  have e1 := V_split (a.set k z) k (by simp; omega)
  have e2 := V_drop (a.set k z) k (by simp; omega)
  have e3 : (a.set k z).take k = a.take k := by rw [List.take_set_of_le (by omega)]
  have e4 : (a.set k z).drop (k + 1) = a.drop (k + 1) := by rw [List.drop_set_of_lt (by omega)]
  have e5 : (a.set k z).getD k 0 = z := by simp [List.getD, h]
  rw [e1, e3, e2, e4, e5, s1, s2, Int.mul_add, Int.mul_add, Int.mul_sub]
  omega

/-- -1, 0, 1: below, the same, above. -/
def sg (x y : Int) : Int := if x < y then -1 else if y < x then 1 else 0

theorem sg_self (x : Int) : sg x x = 0 := by simp [sg]
theorem sg_eq {x y : Int} (h : x = y) : sg x y = 0 := by rw [h]; exact sg_self y
theorem sg_lt {x y : Int} (h : x < y) : sg x y = -1 := by simp [sg, h]
theorem sg_gt {x y : Int} (h : y < x) : sg x y = 1 := by
  simp only [sg]; rw [if_neg (by omega), if_pos h]
theorem sg_zero {x y : Int} (h : sg x y = 0) : x = y := by
  rcases Int.lt_trichotomy x y with h1 | h1 | h1
  · rw [sg_lt h1] at h; omega
  · exact h1
  · rw [sg_gt h1] at h; omega

theorem sg_swap (x y : Int) : sg y x = - sg x y := by
  rcases Int.lt_trichotomy x y with h | h | h
  · rw [sg_lt h, sg_gt h]; rfl
  · rw [h, sg_self]; rfl
  · rw [sg_lt h, sg_gt h]
theorem sg_add (x y z : Int) : sg (x + z) (y + z) = sg x y := by
  rcases Int.lt_trichotomy x y with h | h | h
  · rw [sg_lt h, sg_lt (by omega)]
  · rw [h]; rw [sg_self, sg_self]
  · rw [sg_gt h, sg_gt (by omega)]
theorem sg_bd (x y : Int) : -1 ≤ sg x y ∧ sg x y ≤ 1 := by
  rcases Int.lt_trichotomy x y with h | h | h
  · rw [sg_lt h]; omega
  · rw [h, sg_self]; omega
  · rw [sg_gt h]; omega

theorem sg_len {A C : List Int} (ha : Ok A) (hc : Ok C) (na : Nm A) (nc : Nm C) (h : A.length ≠ C.length) : sg (A.length : Int) (C.length : Int) = sg (V A) (V C) := by
  rcases Nat.lt_trichotomy A.length C.length with h1 | h1 | h1
  · rw [sg_lt (by omega), sg_lt (lt_of_V ha hc nc h1)]
  · exact absurd h1 h
  · rw [sg_gt (by omega), sg_gt (lt_of_V hc ha na h1)]

/-- The first limb from the top that differs says which is above. -/
theorem sg_top {A C : List Int} (ha : Ok A) (hc : Ok C) (q : Nat) (hq : q < A.length) (hl : A.length = C.length) (h : ∀ j, q + 1 ≤ j → j < A.length → A.getD j 0 = C.getD j 0)
    (hne : A.getD q 0 ≠ C.getD q 0) : sg (A.getD q 0) (C.getD q 0) = sg (V A) (V C) := by
  have s1 := V_split A q (by omega)
  have s2 := V_split C q (by omega)
  have d1 := V_drop A q hq
  have d2 := V_drop C q (by omega)
  have e : A.drop (q + 1) = C.drop (q + 1) := by
    apply List.ext_getElem (by simp; omega)
    intro j h1 h2
    have := h (q + 1 + j) (by omega) (by simp at h1; omega)
    simp at h1 h2
    simpa [List.getD, show q + 1 + j < A.length by omega, show q + 1 + j < C.length by omega] using this
  rw [e] at d1
  generalize V (C.drop (q + 1)) = X at *
  have l1 := V_lt (ha.take q)
  have l2 := V_lt (hc.take q)
  have k1 : (A.take q).length = q := by simp; omega
  have k2 : (C.take q).length = q := by simp; omega
  rw [k1] at l1
  rw [k2] at l2
  have n1 := V_nonneg (ha.take q)
  have n2 := V_nonneg (hc.take q)
  have hB := B_pos q
  rcases Int.lt_trichotomy (A.getD q 0) (C.getD q 0) with h1 | h1 | h1
  · have : B q * (A.getD q 0 + 4294967296 * X + 1) ≤ B q * (C.getD q 0 + 4294967296 * X) := Int.mul_le_mul_of_nonneg_left (by omega) (by omega)
    rw [Int.mul_add, Int.mul_one] at this
    rw [d1] at s1; rw [d2] at s2
    rw [sg_lt h1, sg_lt (by omega)]
  · exact absurd h1 hne
  · have : B q * (C.getD q 0 + 4294967296 * X + 1) ≤ B q * (A.getD q 0 + 4294967296 * X) := Int.mul_le_mul_of_nonneg_left (by omega) (by omega)
    rw [Int.mul_add, Int.mul_one] at this
    rw [d1] at s1; rw [d2] at s2
    rw [sg_gt h1, sg_gt (by omega)]

theorem V_take_next (a : List Int) (k : Nat) : V (a.take (k + 1)) = V (a.take k) + B k * a.getD k 0 := by
  by_cases h : k < a.length
  · exact V_take_succ a k h
  · have e1 : a.take (k + 1) = a := List.take_of_length_le (by omega)
    have e2 : a.take k = a := List.take_of_length_le (by omega)
    have e3 : a.getD k 0 = 0 := by simp [List.getD, h]
    rw [e1, e2, e3]; omega

theorem take_set_succ (a : List Int) (k : Nat) (z : Int) (h : k < a.length) : V ((a.set k z).take (k + 1)) = V (a.take k) + B k * z := by
  rw [V_take_next, List.take_set_of_le (by omega)]
  have : (a.set k z).getD k 0 = z := by simp [List.getD, h]
  rw [this]

/-- One round of addTimes. -/
theorem addT_step (X' X L : List Int) (k : Nat) (cc t x l : Int) (hk : k < X'.length) (hx : x = X.getD k 0) (hl : l = L.getD k 0)
    (hV : V (X'.take k) + B k * cc = V (X.take k) + V (L.take k) * t) :
    V ((X'.set k ((cc + l * t + x) % 4294967296)).take (k + 1)) + B (k + 1) * ((cc + l * t + x) / 4294967296) = V (X.take (k + 1)) + V (L.take (k + 1)) * t := by
  rw [take_set_succ _ _ _ hk, V_take_next X, V_take_next L, ← hx, ← hl]
  generalize hs : cc + l * t + x = s
  have hd : s % 4294967296 + 4294967296 * (s / 4294967296) = s := by omega
  have e : B k * (s % 4294967296) + B (k + 1) * (s / 4294967296) = B k * s := by
    simp only [B]
    rw [Int.mul_comm 4294967296 (B k), Int.mul_assoc, ← Int.mul_add, hd]
  rw [← hs] at e
  rw [Int.mul_add, Int.mul_add] at e
  rw [Int.add_mul, Int.mul_assoc]
  rw [← hs]
  omega

theorem set_same (X' X : List Int) (k : Nat) (z : Int) (h : ∀ j, k ≤ j → X'.getD j 0 = X.getD j 0) : ∀ j, k + 1 ≤ j → (X'.set k z).getD j 0 = X.getD j 0 := by
  intro j hj
  rw [← h j (by omega)]
  simp only [List.getD_eq_getElem?_getD]
  rw [List.getElem?_set_ne (by omega)]

theorem prod_bd {l t : Int} (h0 : 0 ≤ l) (h1 : l < 4294967296) (h2 : 0 ≤ t) (h3 : t < 4294967296) : 0 ≤ l * t ∧ l * t ≤ 18446744065119617025 := by
  refine ⟨Int.mul_nonneg h0 h2, ?_⟩
  have := Int.mul_le_mul (show l ≤ 4294967295 by omega) (show t ≤ 4294967295 by omega) h2 (by omega)
  omega

end Go.Proofs.YtbmondbicnfcpaaDoor

/-
  What the walks say of slices of uint32: Sl (a slice value whose numbers are known, to be read), Row (a block of the call's own, known whole, to be written).
-/
namespace Go.Proofs.YtbmondbicnfcpaaDoor
open Go.RowKit

/-- The slice value v has in w the numbers zs. -/
def Sl (w : World) (v : Value) (zs : List Int) : Prop :=
  Ok zs ∧ ∃ a n cap, v = .slice a n cap ∧ zs.length = n ∧ n ≤ cap ∧ cap ≤ 9223372036854775807 ∧ (a = none → cap = 0) ∧
    (0 < n → ∃ b off, a = some ⟨b, off, none⟩ ∧ b < w.heap.size ∧ ∀ i, i < n → w.cell? ⟨b, off + i, none⟩ = some (.int .u32 (zs.getD i 0)))

theorem Sl.nil (w : World) : Sl w (.slice none 0 0) [] :=
  ⟨Ok.nil, none, 0, 0, rfl, rfl, Nat.le_refl _, by decide, fun _ => rfl, fun h => absurd h (by decide)⟩

theorem Sl.shape {w : World} {v : Value} {zs : List Int} (h : Sl w v zs) : ∃ a cap, v = .slice a zs.length cap := by
  obtain ⟨_, a, n, cap, rfl, rfl, _⟩ := h
  exact ⟨a, cap, rfl⟩

theorem Sl.below {w w' : World} {v : Value} {zs : List Int} (h : Sl w v zs) (hb : Below w.heap.size w w') : Sl w' v zs := by
  obtain ⟨hok, a, n, cap, rfl, hl, hc, hm, hn, hp⟩ := h
  refine ⟨hok, a, n, cap, rfl, hl, hc, hm, hn, fun h0 => ?_⟩
  obtain ⟨b, off, rfl, hlt, hcell⟩ := hp h0
  refine ⟨b, off, rfl, Nat.lt_of_lt_of_le hlt hb.size, fun i hi => ?_⟩
  rw [hb.cell (p := ⟨b, off + i, none⟩) hlt]
  exact hcell i hi

/-- A block of the call's own: its numbers are all known, none is frozen. -/
def Row (w : World) (g : Nat) (Z : List Int) : Prop := w.heap[g]? = some (.cells (Z.map (Value.int .u32)).toArray 59 (0, 0))

theorem Row.lt {w : World} {g : Nat} {Z : List Int} (h : Row w g Z) : g < w.heap.size := (Array.getElem?_eq_some_iff.1 h).1

theorem Row.cell {w : World} {g : Nat} {Z : List Int} (h : Row w g Z) (j : Nat) (hj : j < Z.length) : w.cell? ⟨g, j, none⟩ = some (.int .u32 (Z.getD j 0)) := by
  rw [cell_of_row w g j _ _ _ h]
  simp [List.getD, hj]

theorem Row.frozen {w : World} {g : Nat} {Z : List Int} (h : Row w g Z) (j : Nat) : w.frozen? ⟨g, j, none⟩ = false := by
  unfold Row at h
  simp [World.frozen?, h]

theorem Row.set {w : World} {g : Nat} {Z : List Int} (h : Row w g Z) (j : Nat) (z : Int) : Row (w.setCell ⟨g, j, none⟩ (.int .u32 z)) g (Z.set j z) := by
  unfold Row at h ⊢
  simp [World.setCell, Array.getElem?_modify, h, List.map_set]

/-- All blocks but g are as they were. -/
structure But (g : Nat) (w w' : World) : Prop where
  os : w'.os = w.os
  tape : w'.tape = w.tape
  output : w'.output = w.output
  size : w'.heap.size = w.heap.size
  block : ∀ k, k ≠ g → w'.heap[k]? = w.heap[k]?

theorem But.refl (g : Nat) (w : World) : But g w w := ⟨rfl, rfl, rfl, rfl, fun _ _ => rfl⟩
theorem But.trans {g : Nat} {a b c : World} (h : But g a b) (k : But g b c) : But g a c :=
  ⟨k.os.trans h.os, k.tape.trans h.tape, k.output.trans h.output, k.size.trans h.size, fun i hi => (k.block i hi).trans (h.block i hi)⟩
theorem But.drew {g : Nat} {a w : World} (h : But g a w) : But g a w.drew := ⟨h.os, h.tape, h.output, h.size, h.block⟩
theorem But.setCell {g : Nat} {a w : World} (h : But g a w) (j : Nat) (u : Value) : But g a (w.setCell ⟨g, j, none⟩ u) :=
  h.trans ⟨rfl, rfl, rfl, by simp [World.setCell], fun k hk => Below.heap_setCell _ _ _ _ hk⟩
theorem But.below {g B : Nat} {a w : World} (h : But g a w) (hB : B ≤ g) : Below B a w :=
  ⟨h.os, h.tape, h.output, Nat.le_of_eq h.size.symm, fun k hk => h.block k (by omega)⟩
theorem But.row {g g' : Nat} {a w : World} {Z : List Int} (h : But g a w) (hr : Row a g' Z) (hne : g' ≠ g) : Row w g' Z := by
  unfold Row at hr ⊢
  rw [h.block g' hne]; exact hr

theorem Row.below {w w' : World} {g B : Nat} {Z : List Int} (h : Row w g Z) (hb : Below B w w') (hg : g < B) : Row w' g Z := by
  unfold Row at h ⊢
  rw [hb.block g hg]; exact h

/-- A slice that does not lie in block g is read as ever, whatever is written there. -/
theorem Sl.but {g : Nat} {w w' : World} {v : Value} {zs : List Int} (h : Sl w v zs) (hb : But g w w') (hne : v.ownBlock ≠ some g) : Sl w' v zs := by
  obtain ⟨hok, a, n, cap, rfl, hl, hc, hm, hn, hp⟩ := h
  refine ⟨hok, a, n, cap, rfl, hl, hc, hm, hn, fun h0 => ?_⟩
  obtain ⟨b, off, rfl, hlt, hcell⟩ := hp h0
  refine ⟨b, off, rfl, by rw [hb.size]; exact hlt, fun i hi => ?_⟩
  have hbg : b ≠ g := by intro e; subst e; exact hne rfl
  rw [World.cell?_of_block (w := w) (a := ⟨b, off + i, none⟩) (hb.block b hbg)]
  exact hcell i hi

/-- A piece of a block of the call's own, read. -/
theorem Row.sl {w : World} {g : Nat} {Z : List Int} (h : Row w g Z) (hok : Ok Z) (off n cap : Nat) (hn : off + n ≤ Z.length) (hc : n ≤ cap) (hm : cap ≤ 9223372036854775807) :
    Sl w (.slice (some ⟨g, off, none⟩) n cap) ((Z.drop off).take n) := by
  refine ⟨(hok.drop _).take _, _, n, cap, rfl, by simp; omega, hc, hm, fun e => (by cases e), fun h0 => ⟨g, off, rfl, h.lt, fun i hi => ?_⟩⟩
  rw [h.cell (off + i) (by omega)]
  simp [List.getD, hi]

theorem Row.all {w : World} {g : Nat} {Z : List Int} (h : Row w g Z) (hok : Ok Z) (hm : Z.length ≤ 9223372036854775807) : Sl w (.slice (some ⟨g, 0, none⟩) Z.length Z.length) Z := by
  have := h.sl hok 0 Z.length Z.length (by omega) (Nat.le_refl _) hm
  simpa using this

theorem getD_in (P X S : List Int) (i : Nat) (hi : i < X.length) : (P ++ (X ++ S)).getD (P.length + i) 0 = X.getD i 0 := by
  simp only [List.getD_eq_getElem?_getD]
  rw [List.getElem?_append_right (by omega), show P.length + i - P.length = i by omega, List.getElem?_append_left hi]

theorem set_in (P X S : List Int) (i : Nat) (z : Int) (hi : i < X.length) : (P ++ (X ++ S)).set (P.length + i) z = P ++ (X.set i z ++ S) := by
  rw [List.set_append_right _ _ (by omega), show P.length + i - P.length = i by omega, List.set_append_left _ _ hi]

theorem Row.cellIn {w : World} {g : Nat} {P X S : List Int} (h : Row w g (P ++ (X ++ S))) (i : Nat) (hi : i < X.length) : w.cell? ⟨g, P.length + i, none⟩ = some (.int .u32 (X.getD i 0)) := by
  rw [h.cell _ (by simp; omega), getD_in _ _ _ _ hi]

theorem Row.setIn {w : World} {g : Nat} {P X S : List Int} (h : Row w g (P ++ (X ++ S))) (i : Nat) (hi : i < X.length) (z : Int) : Row (w.setCell ⟨g, P.length + i, none⟩ (.int .u32 z)) g (P ++ (X.set i z ++ S)) := by
  rw [← set_in _ _ _ _ _ hi]; exact h.set _ z

theorem wu64 {n : Int} (h0 : 0 ≤ n) (h1 : n ≤ 18446744073709551615) : IntKind.u64.wrap n = n := by rw [IntKind.wrap_u64]; omega
theorem wu32 {n : Int} (h0 : 0 ≤ n) (h1 : n ≤ 4294967295) : IntKind.u32.wrap n = n := by rw [IntKind.wrap_u32]; omega

/-- What stands in a slice at a place, as the walk wants it: the value's shape, and its cell. -/
theorem Sl.at {w : World} {a : Option Addr} {n cap : Nat} {zs : List Int} (h : Sl w (.slice a n cap) zs) (k : Nat) (hk : k < zs.length) :
    ∃ b off, a = some ⟨b, off, none⟩ ∧ w.cell? ⟨b, off + k, none⟩ = some (.int .u32 (zs.getD k 0)) := by
  obtain ⟨_, a', n', cap', he, hl, _, _, _, hp⟩ := h
  injection he with e1 e2 e3
  subst e1; subst e2; subst e3
  obtain ⟨b, off, rfl, _, hc⟩ := hp (by omega)
  exact ⟨b, off, rfl, hc k (by omega)⟩

theorem Sl.block {w : World} {v : Value} {zs : List Int} (h : Sl w v zs) (h0 : 0 < zs.length) : ∃ k, v.ownBlock = some k ∧ k < w.heap.size := by
  obtain ⟨_, a, n, cap, rfl, hl, _, _, _, hp⟩ := h
  obtain ⟨b, off, rfl, hb, _⟩ := hp (by omega)
  exact ⟨b, rfl, hb⟩

/-- What trim leaves of a slice lies where the slice lay: in memory that was there when the slice was. -/
theorem Sl.old {w : World} {v v' : Value} {zs : List Int} (h : Sl w v zs) (ho : v'.ownBlock = none ∨ (v'.ownBlock = v.ownBlock ∧ 0 < zs.length)) : ∀ k, v'.ownBlock = some k → k < w.heap.size := by
  intro k hk
  rcases ho with h1 | ⟨h1, h2⟩
  · rw [hk] at h1; cases h1
  · obtain ⟨k', h3, h4⟩ := h.block h2
    rw [hk, h3] at h1
    injection h1 with e
    omega

theorem Sl.ok {w : World} {v : Value} {zs : List Int} (h : Sl w v zs) : Ok zs := h.1
theorem Sl.len {w : World} {a : Option Addr} {n cap : Nat} {zs : List Int} (h : Sl w (.slice a n cap) zs) : zs.length = n ∧ n ≤ cap ∧ cap ≤ 9223372036854775807 ∧ (a = none → cap = 0) := by
  obtain ⟨_, a', n', cap', he, hl, h1, h2, h3, hp⟩ := h
  injection he with e1 e2 e3
  subst e1; subst e2; subst e3
  exact ⟨hl, h1, h2, h3⟩

/-- 'l[q:]'. -/
theorem Sl.cut {w : World} {b off n cap q : Nat} {zs : List Int} (h : Sl w (.slice (some ⟨b, off, none⟩) n cap) zs) (hq : q < n) : Sl w (.slice (some ⟨b, off + q, none⟩) (n - q) (cap - q)) (zs.drop q) := by
  obtain ⟨hok, a', n', cap', he, hl, h1, h2, h3, hp⟩ := h
  injection he with e1 e2 e3
  subst e1; subst e2; subst e3
  obtain ⟨b', off', he, hb, hc⟩ := hp (by omega)
  simp at he
  obtain ⟨rfl, rfl⟩ := he
  refine ⟨hok.drop q, _, _, _, rfl, by simp; omega, by omega, by omega, fun e => (by cases e), fun _ => ⟨b, off + q, rfl, hb, fun i hi => ?_⟩⟩
  have := hc (q + i) (by omega)
  rw [show off + q + i = off + (q + i) by omega, this]
  simp [List.getD]

end Go.Proofs.YtbmondbicnfcpaaDoor

/-
  limb.trim: the list's own memory without the 0s at its top: for every slice of uint32, nothing is written.
-/
namespace Go.Proofs.YtbmondbicnfcpaaDoor
open Go.RowKit

def TrimPost (w : World) (v : Value) (zs : List Int) (e : Ending) (w' : World) : Prop :=
  w = w' ∧ ∃ v' n, e = .returned v' ∧ n ≤ zs.length ∧ Sl w v' (zs.take n) ∧ Nm (zs.take n) ∧ V (zs.take n) = V zs ∧
    (n = 0 → v' = .slice none 0 0) ∧ (v'.ownBlock = none ∨ (v'.ownBlock = v.ownBlock ∧ 0 < zs.length)) ∧ (∀ k, v'.ownBlock = some k → k < w.heap.size)

set_option maxHeartbeats 400000 in
theorem trim_any (v : Value) (zs : List Int) (w : World) (h : Sl w v zs) :
    Calls Tryd.prog 96 #[v] w fun e w' => TrimPost w v zs e w' := by
  obtain ⟨hok, a, n, cap, rfl, hl, hc, hm, hn, hp⟩ := h
  go_enter Tryd.func96, Tryd.ntmps96
  go_wp2
  go_loop [3] (fun i => ∃ k : Nat, k ≤ n ∧ i = .int .i64 k ∧ ∀ j, k ≤ j → j < n → zs.getD j 0 = 0) (fun i => (intOf i).toNat)
  case atStart => exact ⟨n, Nat.le_refl _, rfl, fun j h1 h2 => by omega⟩
  case round =>
    obtain ⟨k, hk, rfl, hz⟩ := hrel
    cases k with
    | zero =>
      go_wp2
      go_ret
      exact ⟨rfl, _, 0, rfl, by omega, by simpa using Sl.nil w, by simpa using Nm_nil, V_trim zs 0 (by omega) (fun i _ h2 => hz i (by omega) (by omega)), fun _ => rfl, .inl rfl, fun k hk => by simp [Value.ownBlock] at hk⟩
    | succ m =>
      obtain ⟨b, off, rfl, hb, hcell⟩ := hp (by omega)
      have hcm := hcell m (by omega)
      go_wp2
      · have h0 : (zs[m]?.getD 0 == 0) = true := by assumption
        go_round
        case rel =>
          refine ⟨m, by omega, by go_num, fun j h1 h2 => ?_⟩
          by_cases e : j = m
          · subst e; simpa using h0
          · exact hz j (by omega) h2
        case measure => simp [intOf]
      · have h0 : (zs[m]?.getD 0 == 0) = false := by assumption
        go_ret
        refine ⟨rfl, _, m + 1, rfl, by omega, ?_, ?_, V_trim zs (m + 1) (by omega) (fun i h1 h2 => hz i (by omega) (by omega)), fun h => by omega, .inr ⟨rfl, by omega⟩, fun k hk => by simp [Value.ownBlock] at hk; omega⟩
        · refine ⟨hok.take _, _, m + 1, cap, rfl, by simp; omega, by omega, hm, fun e => (by cases e), fun _ => ⟨b, off, rfl, hb, fun i hi => ?_⟩⟩
          rw [hcell i (by omega)]
          simp [List.getD, hi]
        · refine Nm_take zs (m + 1) (by omega) (fun _ => ?_)
          simpa using h0
end Go.Proofs.YtbmondbicnfcpaaDoor

/-
  cmp.Compare at int and at uint32, and limb.Cmp: -1, 0, 1 as the first number is below, the same, above: for every two slices of uint32.
-/
namespace Go.Proofs.YtbmondbicnfcpaaDoor
open Go.RowKit

set_option maxHeartbeats 400000 in
theorem isNaN_int (x : Int) (w : World) : Calls Tryd.prog 142 #[.int .i64 x] w fun e w' => e = .returned (.bool false) ∧ w' = w := by
  have h : (x != x) = false := by simp
  go_enter Tryd.func142, Tryd.ntmps142
  go_wp2
  go_ret
  exact ⟨rfl, rfl⟩

set_option maxHeartbeats 400000 in
theorem isNaN_u32 (x : Int) (w : World) : Calls Tryd.prog 143 #[.int .u32 x] w fun e w' => e = .returned (.bool false) ∧ w' = w := by
  have h : (x != x) = false := by simp
  go_enter Tryd.func143, Tryd.ntmps143
  go_wp2
  go_ret
  exact ⟨rfl, rfl⟩

set_option maxHeartbeats 400000 in
theorem compare_int (x y : Int) (w : World) : Calls Tryd.prog 107 #[.int .i64 x, .int .i64 y] w fun e w' => e = .returned (.int .i64 (sg x y)) ∧ w' = w := by
  by_cases h1 : x < y
  · have hs : sg x y = -1 := by simp [sg, h1]
    rw [hs]; clear hs
    go_enter Tryd.func107, Tryd.ntmps107
    go_wp2_with (go_at_call 142; refine (isNaN_int _ _).mono ?_; rintro e w' ⟨rfl, rfl⟩)
    go_ret
    exact ⟨rfl, rfl⟩
  · by_cases h2 : y < x
    · have hs : sg x y = 1 := by simp [sg, h1, h2]
      rw [hs]; clear hs
      go_enter Tryd.func107, Tryd.ntmps107
      go_wp2_with (go_at_call 142; refine (isNaN_int _ _).mono ?_; rintro e w' ⟨rfl, rfl⟩)
      go_ret
      exact ⟨rfl, rfl⟩
    · have hs : sg x y = 0 := by simp [sg, h1, h2]
      rw [hs]; clear hs
      go_enter Tryd.func107, Tryd.ntmps107
      go_wp2_with (go_at_call 142; refine (isNaN_int _ _).mono ?_; rintro e w' ⟨rfl, rfl⟩)
      go_ret
      exact ⟨rfl, rfl⟩

set_option maxHeartbeats 400000 in
theorem compare_u32 (x y : Int) (w : World) : Calls Tryd.prog 108 #[.int .u32 x, .int .u32 y] w fun e w' => e = .returned (.int .i64 (sg x y)) ∧ w' = w := by
  by_cases h1 : x < y
  · have hs : sg x y = -1 := by simp [sg, h1]
    rw [hs]; clear hs
    go_enter Tryd.func108, Tryd.ntmps108
    go_wp2_with (go_at_call 143; refine (isNaN_u32 _ _).mono ?_; rintro e w' ⟨rfl, rfl⟩)
    go_ret
    exact ⟨rfl, rfl⟩
  · by_cases h2 : y < x
    · have hs : sg x y = 1 := by simp [sg, h1, h2]
      rw [hs]; clear hs
      go_enter Tryd.func108, Tryd.ntmps108
      go_wp2_with (go_at_call 143; refine (isNaN_u32 _ _).mono ?_; rintro e w' ⟨rfl, rfl⟩)
      go_ret
      exact ⟨rfl, rfl⟩
    · have hs : sg x y = 0 := by simp [sg, h1, h2]
      rw [hs]; clear hs
      go_enter Tryd.func108, Tryd.ntmps108
      go_wp2_with (go_at_call 143; refine (isNaN_u32 _ _).mono ?_; rintro e w' ⟨rfl, rfl⟩)
      go_ret
      exact ⟨rfl, rfl⟩

def CmpPost (w : World) (x y : Int) (e : Ending) (w' : World) : Prop := e = .returned (.int .i64 (sg x y)) ∧ Below w.heap.size w w'

set_option maxHeartbeats 1000000 in
theorem cmp_any (va vb : Value) (a b : List Int) (w : World) (ha : Sl w va a) (hb : Sl w vb b) :
    Calls Tryd.prog 60 #[va, vb] w fun e w' => CmpPost w (V a) (V b) e w' := by
  obtain ⟨aa, acap, rfl⟩ := ha.shape
  obtain ⟨ba, bcap, rfl⟩ := hb.shape
  go_enter Tryd.func60, Tryd.ntmps60
  go_wp2_with fail
  refine (trim_any _ a _ ha).mono ?_
  rintro e w' ⟨rfl, v1, n1, rfl, hn1, hs1, hnm1, hv1, -⟩
  go_wp2_with fail
  refine (trim_any _ b _ hb).mono ?_
  rintro e w' ⟨rfl, v2, n2, rfl, hn2, hs2, hnm2, hv2, -⟩
  obtain ⟨ok1, p1, m1, c1, rfl, hl1, hc1, hm1, hnn1, hp1⟩ := hs1
  obtain ⟨ok2, p2, m2, c2, rfl, hl2, hc2, hm2, hnn2, hp2⟩ := hs2
  have H1 : Hid (V a = V (a.take n1)) := hv1.symm
  have H2 : Hid (V b = V (b.take n2)) := hv2.symm
  clear hv1 hv2
  generalize a.take n1 = A at *
  generalize b.take n2 = C at *
  clear ha hb hn1 hn2
  by_cases hne : m1 = m2
  · subst hne
    have hb : ((m1 : Int) != (m1 : Int)) = false := by simp
    go_wp2_with fail
    go_loopw [5] (fun i wr => ∃ k : Nat, k ≤ m1 ∧ i = .int .i64 ((k : Int) - 1) ∧ (∀ j, k ≤ j → j < m1 → A.getD j 0 = C.getD j 0) ∧ Below w.heap.size w wr) (fun i _ => ((intOf i) + 1).toNat)
    case atStart => exact ⟨m1, Nat.le_refl _, rfl, fun j h1 h2 => by omega, Below.refl _ _⟩
    case round =>
      obtain ⟨k, hk, rfl, hz, hbel⟩ := hrel
      cases k with
      | zero =>
        have heq : Hid (A = C) := by
          show A = C
          apply List.ext_getElem (by omega)
          intro j h1 h2
          have := hz j (by omega) (by omega)
          simpa [List.getD, h1, h2] using this
        clear hz
        go_wp2_with fail
        go_ret
        refine ⟨?_, hbel⟩
        rw [H1.out, H2.out, heq.out]
        simp [sg]
      | succ q =>
        obtain ⟨b1, off1, rfl, hb1, hcell1⟩ := hp1 (by omega)
        obtain ⟨b2, off2, rfl, hb2, hcell2⟩ := hp2 (by omega)
        have c1 : wr.cell? ⟨b1, off1 + q, none⟩ = some (.int .u32 (A.getD q 0)) := (hbel.cell (p := ⟨b1, off1 + q, none⟩) hb1).trans (hcell1 q (by omega))
        have c2 : wr.cell? ⟨b2, off2 + q, none⟩ = some (.int .u32 (C.getD q 0)) := (hbel.cell (p := ⟨b2, off2 + q, none⟩) hb2).trans (hcell2 q (by omega))
        have hq : (q : Int) < (m1 : Int) := by omega
        have hq0 : (0 : Int) ≤ (q : Int) := by omega
        go_wp2_with fail
        go_quiet (fail)
        go_wp2_with fail
        · have hd : (A[q]?.getD 0 != C[q]?.getD 0) = true := by assumption
          have hbel2 := below_drewN hbel nq
          have d1 : (wr.drewN nq).cell? ⟨b1, off1 + q, none⟩ = some (.int .u32 (A.getD q 0)) := c1
          have d2 : (wr.drewN nq).cell? ⟨b2, off2 + q, none⟩ = some (.int .u32 (C.getD q 0)) := c2
          clear c1 c2 hbel
          generalize wr.drewN nq = w2 at *
          go_quiet ((go_at_call 108; exact Calls.quiet_of_same (compare_u32 _ _ _)))
          go_wp2_with fail
          go_ret
          refine ⟨?_, below_drewN hbel2 _⟩
          have hd' : A.getD q 0 ≠ C.getD q 0 := by simpa using hd
          have := sg_top ok1 ok2 q (by omega) (by omega) (by rw [hl1]; exact hz) hd'
          rw [H1.out, H2.out, ← this]
          simp
        · have hd : (A[q]?.getD 0 != C[q]?.getD 0) = false := by assumption
          go_roundw
          case rel =>
            refine ⟨q, by omega, rfl, fun j h1 h2 => ?_, below_drewN hbel _⟩
            by_cases e : j = q
            · subst e; simpa using hd
            · exact hz j (by omega) h2
          case measure => simp [intOf]
  · have hb : ((m1 : Int) != (m2 : Int)) = true := by simp; omega
    go_wp2_with (go_at_call 107; refine (compare_int _ _ _).mono ?_; rintro e w' ⟨rfl, rfl⟩)
    go_ret
    refine ⟨?_, Below.refl _ _⟩
    show Ending.returned (.int .i64 (sg m1 m2)) = _
    have : sg (m1 : Int) (m2 : Int) = sg (V A) (V C) := by
      subst hl1; subst hl2; exact sg_len ok1 ok2 hnm1 hnm2 hne
    rw [this, H1.out, H2.out]
end Go.Proofs.YtbmondbicnfcpaaDoor

/-
  limb.addTimes: adds l, so many times, to the number in a piece of a block of the call's own.
-/
namespace Go.Proofs.YtbmondbicnfcpaaDoor
open Go.RowKit

def AddTPost (w : World) (g : Nat) (P X S L : List Int) (t : Int) (e : Ending) (w' : World) : Prop :=
  e = .returned (.tuple #[]) ∧ But g w w' ∧ ∃ X' c, X'.length = X.length ∧ Ok X' ∧ Row w' g (P ++ (X' ++ S)) ∧ 0 ≤ c ∧ c < 4294967296 ∧ V X' + B X.length * c = V X + V (L.take X.length) * t

set_option maxHeartbeats 1000000 in
theorem addT_any (g cap : Nat) (P X S : List Int) (vl : Value) (L : List Int) (t : Int) (w : World) (hr : Row w g (P ++ (X ++ S))) (hX : Ok X) (hc : X.length ≤ cap) (hm : cap ≤ 9223372036854775807)
    (hl : Sl w vl L) (hne : vl.ownBlock ≠ some g) (ht0 : 0 ≤ t) (ht1 : t < 4294967296) :
    Calls Tryd.prog 97 #[.slice (some ⟨g, P.length, none⟩) X.length cap, vl, .int .u32 t] w fun e w' => AddTPost w g P X S L t e w' := by
  obtain ⟨al, lcap, rfl⟩ := hl.shape
  go_enter Tryd.func97, Tryd.ntmps97
  go_wp2_with fail
  go_loopw [6, 10] (fun c i wr => ∃ (k : Nat) (cc : Int) (X' : List Int), k ≤ X.length ∧ i = .int .i64 k ∧ c = .int .u64 cc ∧ 0 ≤ cc ∧ cc < 4294967296 ∧ X'.length = X.length ∧ Ok X' ∧ Row wr g (P ++ (X' ++ S)) ∧ But g w wr ∧
      V (X'.take k) + B k * cc = V (X.take k) + V (L.take k) * t ∧ (∀ j, k ≤ j → X'.getD j 0 = X.getD j 0)) (fun _ i _ => X.length - (intOf i).toNat)
  case atStart => exact ⟨0, 0, X, by omega, rfl, rfl, by omega, by omega, rfl, hX, hr, But.refl _ _, by simp [V], fun _ _ => rfl⟩
  case round =>
    obtain ⟨k, cc, X', hk, rfl, rfl, hc0, hc1, hlen, hok, hrow, hbut, hV, hsame⟩ := hrel
    by_cases hkl : k < X.length
    · have hsl := hl.but hbut hne
      have hcell := hrow.cellIn k (by omega)
      have hfr : wr.frozen? ⟨g, P.length + k, none⟩ = false := hrow.frozen _
      obtain ⟨x, hx⟩ : ∃ x, x = X'.getD k 0 := ⟨_, rfl⟩
      have hxb := hok.getD k
      have hxX : Hid (x = X.getD k 0) := hx.trans (hsame k (Nat.le_refl _))
      rw [← hx] at hcell hxb
      clear hx
      have hV' : Hid _ := hV
      have hsame' : Hid _ := hsame
      clear hV hsame
      by_cases hk2 : k < L.length
      · obtain ⟨b, off, rfl, hlk⟩ := hsl.at k hk2
        have hLk := hl.ok.getD k
        obtain ⟨l, hll⟩ : ∃ l, l = L.getD k 0 := ⟨_, rfl⟩
        have hp := prod_bd hLk.1 hLk.2 ht0 ht1
        rw [← hll] at hlk hLk hp
        have hlH : Hid (l = L.getD k 0) := hll
        clear hll hsl
        go_wp2_with fail
        go_roundw
        case rel =>
          exact ⟨k + 1, _, X'.set k ((cc + l * t + x) % 4294967296), by omega, by go_num, rfl, by omega, by omega, by simp [hlen], hok.set _ (by omega) (by omega), hrow.setIn _ (by omega) _, hbut.setCell _ _,
            addT_step X' X L k cc t x l (by omega) hxX.out hlH.out hV'.out, set_same _ _ _ _ hsame'.out⟩
        case measure => simp [intOf]; omega
      · have hlH : (0 : Int) = L.getD k 0 := by simp [List.getD, hk2]
        have hst := addT_step X' X L k cc t x 0 (by omega) hxX.out hlH hV'.out
        rw [Int.zero_mul, Int.add_zero] at hst
        have HST : Hid _ := hst
        clear hst hlH hsl
        go_wp2_with fail
        go_roundw
        case rel =>
          exact ⟨k + 1, _, X'.set k ((cc + x) % 4294967296), by omega, by go_num, rfl, by omega, by omega, by simp [hlen], hok.set _ (by omega) (by omega), hrow.setIn _ (by omega) _, hbut.setCell _ _,
            HST.out, set_same _ _ _ _ hsame'.out⟩
        case measure => simp [intOf]; omega
    · obtain rfl : k = X.length := by omega
      have HV : Hid _ := hV
      clear hV hsame
      go_wp2_with fail
      go_end0
      refine ⟨rfl, hbut, X', cc, hlen, hok, hrow, hc0, hc1, ?_⟩
      have := HV.out
      rwa [List.take_of_length_le (by omega), List.take_of_length_le (by omega)] at this
theorem addT_at (g off n cap : Nat) (P X S : List Int) (vl : Value) (L : List Int) (t : Int) (w : World) (hr : Row w g (P ++ (X ++ S))) (hP : P.length = off) (hn : X.length = n) (hX : Ok X) (hc : n ≤ cap) (hm : cap ≤ 9223372036854775807)
    (hl : Sl w vl L) (hne : vl.ownBlock ≠ some g) (ht0 : 0 ≤ t) (ht1 : t < 4294967296) :
    Calls Tryd.prog 97 #[.slice (some ⟨g, off, none⟩) n cap, vl, .int .u32 t] w fun e w' => AddTPost w g P X S L t e w' := by
  subst hP; subst hn
  exact addT_any g cap P X S vl L t w hr hX hc hm hl hne ht0 ht1

end Go.Proofs.YtbmondbicnfcpaaDoor

/-
  make and copy of slices of uint32, as the walks want them.
-/
namespace Go.Proofs.YtbmondbicnfcpaaDoor
open Go.RowKit

/-- n limbs of 0. -/
def zer (n : Nat) : List Int := List.replicate n 0
theorem zer_len (n : Nat) : (zer n).length = n := by simp [zer]
theorem zer_at (n j : Nat) : (zer n).getD j 0 = 0 := by
  simp only [zer, List.getD_eq_getElem?_getD, List.getElem?_replicate]
  split <;> rfl
theorem zer_ok (n : Nat) : Ok (zer n) := Ok.rep n
theorem zer_V (n : Nat) : V (zer n) = 0 := V_rep n

theorem Tryd.infoU32 : (Tryd.prog.info? 59).map (fun i => (i.zero, i.size, i.bytes)) = some (some (.int .u32 0), 1, 4) := by kernel_rfl
theorem Tryd.sizeU32 : (Tryd.prog.info? 59).map (·.size) = some 1 := by kernel_rfl

theorem row_of_owns {w : World} {base g n : Nat} (h : w.ownsRow base 59 1 (.slice (some ⟨g, 0, none⟩) n n) n (madeCells (Value.int .u32 0).cells (n * 1)).toList) : Row w g (zer n) := by
  obtain ⟨_, h2⟩ := h
  rcases h2 with ⟨h3, _⟩ | ⟨g', cap, cur, hv, _, hh, _, _, hs, ht⟩
  · simp at h3
  · simp only [Value.slice.injEq, Option.some.injEq, Addr.mk.injEq] at hv
    obtain ⟨⟨rfl, _⟩, _, rfl⟩ := hv
    unfold Row
    rw [hh]
    have e : cur.toList = (zer n).map (Value.int .u32) := by
      rw [Nat.mul_one] at ht hs
      rw [List.take_of_length_le (by simp [hs])] at ht
      rw [ht]
      have := toList_madeCells_one (.int .u32 0) n
      simpa [Value.cells, zer] using this
    rw [← e]

theorem wpList_make_u32 {w : World} {ops : Array Oper} {rest : List Oper} {o : Oper} {a : Act} {Q : Exit → Act → World → Prop} (hgd : o.guard = none) (l c : Operand)
    (ho : o.op = .makeSlice 24 l c) (L C : Int) (n : Nat) (hl : a.eval l = .int .i64 L) (hc : a.eval c = .int .i64 C) (hL : L = n) (hC : C = n) (hn : n ≤ 70368744177664)
    (h : ∀ w', Row w' w.heap.size (zer n) → Below w.heap.size w w' → wpList Tryd.prog ops Q rest (a.put o.dst (.slice (some ⟨w.heap.size, 0, none⟩) n n)) w') : wpList Tryd.prog ops Q (o :: rest) a w := by
  obtain ⟨i, hi, hz0, hz1, hz2⟩ := info_parts Tryd.infoU32
  refine wpList_make_full w hgd l c 24 ho w.heap.size 59 i (.int .u32 0) 1 Tryd.underlying24 hi hz0 hz1 .i64 .i64 L C n hl hc hL hC (by rw [hz2]; omega) (by simp only [maxLen]; omega) (Nat.le_refl _) ?_
  intro w' hown hgr
  exact h w' (row_of_owns hown) ⟨hgr.os, hgr.tape, hgr.output, hgr.size, fun k hk => hgr.block k hk (by simp)⟩

/-- The row behind a copy: L laid over Z from off on. -/
def over (Z : List Int) (off : Nat) (L : List Int) : List Int := Z.take off ++ (L ++ Z.drop (off + L.length))

theorem over_len (Z : List Int) (off : Nat) (L : List Int) (h : off + L.length ≤ Z.length) : (over Z off L).length = Z.length := by simp [over]; omega
theorem over_ok {Z L : List Int} (hZ : Ok Z) (hL : Ok L) (off : Nat) : Ok (over Z off L) := (hZ.take _).append (hL.append (hZ.drop _))
theorem over_nil (Z : List Int) (off : Nat) : over Z off [] = Z := by simp [over]

theorem copy_run (w : World) (g off dLen dCap : Nat) (sp : Option Addr) (sLen sCap : Nat) (Z L : List Int) (hrow : Row w g Z) (hs : Sl w (.slice sp sLen sCap) L) (hfit : off + L.length ≤ Z.length) (hd : L.length ≤ dLen) :
    ∃ w', (∀ ty, (Builtin.copy_ #[24, 24] ty #[.slice (some ⟨g, off, none⟩) dLen dCap, .slice sp sLen sCap]).run Tryd.prog w = .ok (.int .i64 (L.length : Int)) w') ∧ Row w' g (over Z off L) ∧ But g w w' := by
  obtain ⟨hok, a', n', cap', he, hl, h1, h2, h3, hp⟩ := hs
  injection he with e1 e2 e3
  subst e1; subst e2; subst e3
  by_cases h0 : L.length = 0
  · have hr := fun ty => run_copy_none (P := Tryd.prog) w 24 24 ty 59 (some ⟨g, off, none⟩) sp dLen dCap sLen sCap Tryd.underlying24 Tryd.sizeU32 (by rw [← hl, h0]; simp)
    obtain rfl : L = [] := List.eq_nil_of_length_eq_zero h0
    exact ⟨w, hr, by rw [over_nil]; exact hrow, But.refl _ _⟩
  · obtain ⟨b, o2, rfl, hb, hc⟩ := hp (by omega)
    have hrow' := hrow
    unfold Row at hrow'
    have hr := fun ty => run_copy_row (P := Tryd.prog) w 24 24 ty 59 g off dLen dCap ⟨b, o2, none⟩ sLen sCap _ _ (L.map (Value.int .u32)) Tryd.underlying24 Tryd.sizeU32 hrow'
      (by simp only [List.length_map]; rw [hl]; exact (Nat.min_eq_left (by omega)).symm)
      (fun j v hj => by
        rw [List.getElem?_map] at hj
        by_cases hjl : j < L.length
        · rw [List.getElem?_eq_getElem hjl] at hj
          simp at hj
          have := hc j (by omega)
          simp [List.getD, hjl] at this
          rw [show (⟨b, o2, none⟩ : Addr).add j = ⟨b, o2 + j, none⟩ by unfold Addr.add; split <;> simp_all]
          rw [← hj]; exact this
        · rw [List.getElem?_eq_none (by omega)] at hj
          cases hj)
      (by simp; omega) (ints_oneCell _ _)
    refine ⟨w.setRow g ((over Z off L).map (Value.int .u32)).toArray, fun ty => (hr ty).trans ?_, ?_, ⟨rfl, rfl, rfl, by simp [World.setRow], fun k hk => setRow_other w g k _ hk⟩⟩
    · simp [goInt, over, List.map_take, List.map_drop]
    · unfold Row
      rw [setRow_heap w g _ _ _ _ hrow']
end Go.Proofs.YtbmondbicnfcpaaDoor

/-
  limb.Add: the sum: for every two slices of uint32 that are not too long; what is answered is new memory, without a 0 at its top.
-/
namespace Go.Proofs.YtbmondbicnfcpaaDoor
open Go.RowKit

/-- One slice is answered: its number is x, no 0 at its top, in new memory; nothing old is turned. -/
def NumPost (w : World) (x : Int) (l : Nat) (e : Ending) (w' : World) : Prop :=
  ∃ v zs, e = .returned v ∧ Sl w' v zs ∧ Nm zs ∧ V zs = x ∧ zs.length ≤ l ∧ Below w.heap.size w w' ∧ (∀ k, v.ownBlock = some k → w.heap.size ≤ k)

theorem NumPost.ends {w : World} {x : Int} {l : Nat} {e : Ending} {w' : World} (h : NumPost w x l e w') : ∃ v, e = .returned v ∧ Hid (NumPost w x l (.returned v) w') := by
  obtain ⟨v, zs, rfl, h⟩ := h
  exact ⟨v, rfl, v, zs, rfl, h⟩

/-- 'return trim(out)', out in new memory. -/
theorem TrimPost.num {w w3 : World} {x : Int} {l g off n cap : Nat} {X' : List Int} {e : Ending} {w' : World} (h : TrimPost w3 (.slice (some ⟨g, off, none⟩) n cap) X' e w') (hbel : Below w.heap.size w w3) (hg : w.heap.size ≤ g) (hx : V X' = x) (hl : X'.length ≤ l) :
    NumPost w x l e w' := by
  obtain ⟨rfl, v5, n5, rfl, hn5, hs5, hnm5, hv5, _, ho5, _⟩ := h
  refine ⟨v5, _, rfl, hs5, hnm5, hv5.trans hx, by simp; omega, hbel, fun k hk => ?_⟩
  rcases ho5 with h | ⟨h, _⟩
  · rw [hk] at h; cases h
  · rw [hk] at h; simp [Value.ownBlock] at h; omega

theorem add_math (A C X' : List Int) (c : Int) (hA : Ok A) (hC : Ok C) (hX : Ok X') (hl : C.length ≤ A.length) (hx : X'.length = A.length + 1) (h0 : 0 ≤ c)
    (h : V X' + B (over (zer (A.length + 1)) 0 A).length * c = V (over (zer (A.length + 1)) 0 A) + V (C.take (over (zer (A.length + 1)) 0 A).length) * 1) : V X' = V A + V C := by
  have e1 : (over (zer (A.length + 1)) 0 A).length = A.length + 1 := by rw [over_len] <;> simp [zer]
  have e2 : V (over (zer (A.length + 1)) 0 A) = V A := by
    simp only [over, List.take_zero, List.nil_append]
    rw [V_append]
    simp [zer, V]
  rw [e1, e2, List.take_of_length_le (by omega), Int.mul_one] at h
  have h1 := V_lt hA
  have h2 := V_lt hC
  have h3 := V_nonneg hX
  have h4 := B_mono hl
  have h5 := B_pos A.length
  simp only [B] at h
  by_cases hc : c = 0
  · subst hc; omega
  · have : B A.length * 4294967296 * 1 ≤ 4294967296 * B A.length * c := by
      rw [Int.mul_comm (B A.length)]
      exact Int.mul_le_mul_of_nonneg_left (by omega) (by omega)
    omega

set_option maxHeartbeats 1000000 in
theorem add_any (va vb : Value) (a b : List Int) (w : World) (ha : Sl w va a) (hb : Sl w vb b) (hla : a.length ≤ 1000000) (hlb : b.length ≤ 1000000) :
    Calls Tryd.prog 94 #[va, vb] w fun e w' => NumPost w (V a + V b) (a.length + b.length + 1) e w' := by
  obtain ⟨aa, acap, rfl⟩ := ha.shape
  obtain ⟨ba, bcap, rfl⟩ := hb.shape
  go_enter Tryd.func94, Tryd.ntmps94
  go_wp2_with fail
  refine (trim_any _ a _ ha).mono ?_
  rintro e w' ⟨rfl, v1, n1, rfl, hn1, hs1, hnm1, hv1, -, -, hk1⟩
  go_wp2_with fail
  refine (trim_any _ b _ hb).mono ?_
  rintro e w' ⟨rfl, v2, n2, rfl, hn2, hs2, hnm2, hv2, -, -, hk2⟩
  have H1 : Hid (V a = V (a.take n1)) := hv1.symm
  have H2 : Hid (V b = V (b.take n2)) := hv2.symm
  have hl1 : (a.take n1).length ≤ a.length := by simp; omega
  have hl2 : (b.take n2).length ≤ b.length := by simp; omega
  clear hv1 hv2 hnm1 hnm2
  generalize a.take n1 = A at *
  generalize b.take n2 = C at *
  obtain ⟨p1, c1, rfl⟩ := hs1.shape
  obtain ⟨p2, c2, rfl⟩ := hs2.shape
  clear ha hb hn1 hn2
  by_cases hlt : A.length < C.length
  · go_wp2_with (first | (at_make; refine wpList_make_u32 rfl _ _ rfl _ _ (C.length + 1) rfl rfl (by omega) (by omega) (by omega) ?_; intro w1 hrow1 hbel1; obtain ⟨w2, hcr, hrow2, hbut2⟩ := copy_run w1 w.heap.size 0 (C.length + 1) (C.length + 1) p2 C.length c2 _ C hrow1 (hs2.below hbel1) (by rw [zer_len]; omega) (by omega)) | fail)
    have hbel2 := hbel1.trans (hbut2.below (Nat.le_refl _))
    refine (addT_at w.heap.size 0 (C.length + 1) (C.length + 1) [] (over (zer (C.length + 1)) 0 C) [] _ A 1 w2 (by simpa using hrow2) rfl (by rw [over_len, zer_len]; rw [zer_len]; omega) (over_ok (zer_ok _) hs2.ok 0) (Nat.le_refl _) (by omega) (hs1.below hbel2) (by intro e; have := hk1 _ e; omega) (by decide) (by decide)).mono ?_
    rintro e w3 ⟨rfl, hbut3, X', c, hXl, hXok, hrow3, h0, h1, hV⟩
    rw [over_len _ _ _ (by rw [zer_len]; omega), zer_len] at hXl
    have HF : Hid (V X' = V a + V b) := (add_math C A X' c hs2.ok hs1.ok hXok (by omega) hXl h0 hV).trans (by rw [H1.out, H2.out, Int.add_comm])
    have hXlen : X'.length ≤ a.length + b.length + 1 := by omega
    have hbel3 := hbel2.trans (hbut3.below (Nat.le_refl _))
    have hsl3 := hrow3
    simp only [List.nil_append, List.append_nil] at hsl3
    have hsl := hsl3.all hXok (by omega)
    rw [hXl] at hsl
    clear hV hcr hrow1 hrow2 hrow3 hsl3 hbut2 hbut3 h0 h1 hXl hbel1 hbel2
    go_wp2_with fail
    refine (trim_any _ X' _ hsl).mono ?_
    intro e w' hT
    obtain ⟨v, rfl, FIN⟩ := (hT.num hbel3 (Nat.le_refl _) HF.out hXlen).ends
    clear hT
    go_wp2_with fail
    go_ret
    exact FIN.out
  · go_wp2_with (first | (at_make; refine wpList_make_u32 rfl _ _ rfl _ _ (A.length + 1) rfl rfl (by omega) (by omega) (by omega) ?_; intro w1 hrow1 hbel1; obtain ⟨w2, hcr, hrow2, hbut2⟩ := copy_run w1 w.heap.size 0 (A.length + 1) (A.length + 1) p1 A.length c1 _ A hrow1 (hs1.below hbel1) (by rw [zer_len]; omega) (by omega)) | fail)
    have hbel2 := hbel1.trans (hbut2.below (Nat.le_refl _))
    refine (addT_at w.heap.size 0 (A.length + 1) (A.length + 1) [] (over (zer (A.length + 1)) 0 A) [] _ C 1 w2 (by simpa using hrow2) rfl (by rw [over_len, zer_len]; rw [zer_len]; omega) (over_ok (zer_ok _) hs1.ok 0) (Nat.le_refl _) (by omega) (hs2.below hbel2) (by intro e; have := hk2 _ e; omega) (by decide) (by decide)).mono ?_
    rintro e w3 ⟨rfl, hbut3, X', c, hXl, hXok, hrow3, h0, h1, hV⟩
    rw [over_len _ _ _ (by rw [zer_len]; omega), zer_len] at hXl
    have HF : Hid (V X' = V a + V b) := (add_math A C X' c hs1.ok hs2.ok hXok (by omega) hXl h0 hV).trans (by rw [H1.out, H2.out])
    have hXlen : X'.length ≤ a.length + b.length + 1 := by omega
    have hbel3 := hbel2.trans (hbut3.below (Nat.le_refl _))
    have hsl3 := hrow3
    simp only [List.nil_append, List.append_nil] at hsl3
    have hsl := hsl3.all hXok (by omega)
    rw [hXl] at hsl
    clear hV hcr hrow1 hrow2 hrow3 hsl3 hbut2 hbut3 h0 h1 hXl hbel1 hbel2
    go_wp2_with fail
    refine (trim_any _ X' _ hsl).mono ?_
    intro e w' hT
    obtain ⟨v, rfl, FIN⟩ := (hT.num hbel3 (Nat.le_refl _) HF.out hXlen).ends
    clear hT
    go_wp2_with fail
    go_ret
    exact FIN.out
end Go.Proofs.YtbmondbicnfcpaaDoor

/-
  limb.Mul: the product: for every two slices of uint32 that are not too long.
-/
namespace Go.Proofs.YtbmondbicnfcpaaDoor
open Go.RowKit
set_option linter.unusedVariables false

theorem prod_lt {x y z b : Int} (hb : 1 ≤ b) (hx0 : 0 ≤ x) (hx : x < b) (hy0 : 0 ≤ y) (hy : y < b) (hz0 : 0 ≤ z) (hz : z < 4294967296) : x + y * z < 4294967296 * b := by
  have h1 : y * z ≤ (b - 1) * 4294967295 := Int.mul_le_mul (by omega) (by omega) hz0 (by omega)
  omega

theorem mul_step (Z C A X' : List Int) (k : Nat) (x c : Int) (hC : Ok C) (hZ : Ok Z) (hX : Ok X') (hlen : k + (C.length + 1) ≤ Z.length) (hV : V Z = V (A.take k) * V C) (hz : ∀ j, k + C.length ≤ j → Z.getD j 0 = 0)
    (hx : x = A.getD k 0) (hx0 : 0 ≤ x) (hx1 : x < 4294967296) (hl : X'.length = ((Z.drop k).take (C.length + 1)).length) (hc0 : 0 ≤ c)
    (h : V X' + B ((Z.drop k).take (C.length + 1)).length * c = V ((Z.drop k).take (C.length + 1)) + V (C.take ((Z.drop k).take (C.length + 1)).length) * x) :
    V (Z.take k ++ (X' ++ Z.drop (k + (C.length + 1)))) = V (A.take (k + 1)) * V C ∧ (∀ j, k + 1 + C.length ≤ j → (Z.take k ++ (X' ++ Z.drop (k + (C.length + 1)))).getD j 0 = 0) ∧
      (Z.take k ++ (X' ++ Z.drop (k + (C.length + 1)))).length = Z.length := by
  have e0 : ((Z.drop k).take (C.length + 1)).length = C.length + 1 := by simp; omega
  rw [e0] at h hl
  rw [List.take_of_length_le (l := C) (by omega)] at h
  have hXok : Ok ((Z.drop k).take (C.length + 1)) := (hZ.drop _).take _
  have e1 : V ((Z.drop k).take (C.length + 1)) = V ((Z.drop k).take C.length) := by
    rw [V_take_next]
    have : (Z.drop k).getD C.length 0 = 0 := by
      have := hz (k + C.length) (Nat.le_refl _)
      simpa [List.getD] using this
    rw [this]; omega
  have e2 : ((Z.drop k).take C.length).length = C.length := by simp; omega
  have b1 := V_lt ((hZ.drop k).take C.length)
  rw [e2, ← e1] at b1
  have b2 := V_nonneg hXok
  have b3 := V_lt hC
  have b4 := V_nonneg hC
  have b5 := B_pos C.length
  have b6 := V_nonneg hX
  have b7 := prod_lt (by omega) b2 b1 b4 b3 hx0 hx1
  have hc : c = 0 := by
    by_cases hc : c = 0
    · exact hc
    · have : B (C.length + 1) * 1 ≤ B (C.length + 1) * c := Int.mul_le_mul_of_nonneg_left (by omega) (Int.le_of_lt (B_pos _))
      simp only [B] at this h
      omega
  subst hc
  have s1 := V_split Z k (by omega)
  have s2 := V_split (Z.drop k) (C.length + 1) (by simp; omega)
  rw [List.drop_drop] at s2
  have hS : V (Z.drop (k + (C.length + 1))) = 0 := by
    apply V_zeros
    intro i hi
    have := hz (k + (C.length + 1) + i) (by omega)
    simpa [List.getD] using this
  refine ⟨?_, ?_, ?_⟩
  · rw [V_append, V_append, hS, V_take_next A, ← hx]
    have e3 : (Z.take k).length = k := by simp; omega
    rw [e3, Int.mul_zero, Int.add_zero]
    rw [hS, Int.mul_zero, Int.add_zero] at s2
    rw [s2] at s1
    have e4 : V X' = V ((Z.drop k).take (C.length + 1)) + V C * x := by omega
    rw [e4, Int.mul_add, Int.add_mul, ← hV, s1, Int.mul_assoc, Int.mul_comm x]
    omega
  · intro j hj
    have e3 : (Z.take k).length = k := by simp; omega
    simp only [List.getD_eq_getElem?_getD]
    rw [List.getElem?_append_right (by omega), e3, List.getElem?_append_right (by omega), hl, List.getElem?_drop]
    have := hz (k + (C.length + 1) + (j - k - (C.length + 1))) (by omega)
    simpa [List.getD] using this
  · simp; omega

theorem cut3 (Z : List Int) (k n : Nat) : Z = Z.take k ++ ((Z.drop k).take n ++ Z.drop (k + n)) := by
  rw [← List.drop_drop, List.take_append_drop, List.take_append_drop]

set_option maxHeartbeats 1000000 in
theorem mul_any (va vb : Value) (a b : List Int) (w : World) (ha : Sl w va a) (hb : Sl w vb b) (hla : a.length ≤ 1000000) (hlb : b.length ≤ 1000000) :
    Calls Tryd.prog 54 #[va, vb] w fun e w' => NumPost w (V a * V b) (a.length + b.length) e w' := by
  obtain ⟨aa, acap, rfl⟩ := ha.shape
  obtain ⟨ba, bcap, rfl⟩ := hb.shape
  go_enter Tryd.func54, Tryd.ntmps54
  go_wp2_with fail
  refine (trim_any _ a _ ha).mono ?_
  rintro e w' ⟨rfl, v1, n1, rfl, hn1, hs1, hnm1, hv1, -, -, hk1⟩
  go_wp2_with fail
  refine (trim_any _ b _ hb).mono ?_
  rintro e w' ⟨rfl, v2, n2, rfl, hn2, hs2, hnm2, hv2, -, -, hk2⟩
  have H1 : Hid (V a = V (a.take n1)) := hv1.symm
  have H2 : Hid (V b = V (b.take n2)) := hv2.symm
  have hl1 : (a.take n1).length ≤ a.length := by simp; omega
  have hl2 : (b.take n2).length ≤ b.length := by simp; omega
  clear hv1 hv2 hnm1 hnm2
  generalize a.take n1 = A at *
  generalize b.take n2 = C at *
  obtain ⟨p1, c1, rfl⟩ := hs1.shape
  obtain ⟨p2, c2, rfl⟩ := hs2.shape
  clear ha hb hn1 hn2
  go_wp2_with (first | (at_make; refine wpList_make_u32 rfl _ _ rfl _ _ (A.length + C.length) rfl rfl (by omega) (by omega) (by omega) ?_; intro w1 hrow1 hbel1) | fail)
  go_loopw [20] (fun i wr => ∃ (k : Nat) (Z : List Int), k ≤ A.length ∧ i = .int .i64 k ∧ Z.length = A.length + C.length ∧ Ok Z ∧ Row wr w.heap.size Z ∧ Below w.heap.size w wr ∧
      V Z = V (A.take k) * V C ∧ (∀ j, k + C.length ≤ j → Z.getD j 0 = 0)) (fun i _ => A.length - (intOf i).toNat)
  case atStart => exact ⟨0, zer (A.length + C.length), by omega, rfl, zer_len _, zer_ok _, hrow1, hbel1, by simp [zer_V, V], fun j _ => zer_at _ _⟩
  case round =>
    obtain ⟨k, Z, hk, rfl, hZl, hZok, hrow, hbel, hV, hz⟩ := hrel
    have HV : Hid _ := hV
    have HZ : Hid _ := hz
    clear hV hz hrow1 hbel1
    by_cases hkl : k < A.length
    · obtain ⟨b1, off1, rfl, hcell⟩ := (hs1.below hbel).at k hkl
      have hxb := hs1.ok.getD k
      obtain ⟨x, hx⟩ : ∃ x, x = A.getD k 0 := ⟨_, rfl⟩
      rw [← hx] at hcell hxb
      have HX : Hid _ := hx
      clear hx
      go_wp2_with fail
      refine (addT_at w.heap.size k (k + C.length + 1 - k) (A.length + C.length - k) (Z.take k) ((Z.drop k).take (C.length + 1)) (Z.drop (k + (C.length + 1))) _ C x wr (by rw [← cut3]; exact hrow) (by simp; omega) (by simp; omega) ((hZok.drop _).take _) (by omega) (by omega)
        (hs2.below hbel) (by intro e; have := hk2 _ e; omega) (by omega) (by omega)).mono ?_
      rintro e w3 ⟨rfl, hbut3, X', c, hXl, hXok, hrow3, h0, h1, hV3⟩
      have hst := mul_step Z C A X' k x c hs2.ok hZok hXok (by omega) HV.out HZ.out HX.out hxb.1 hxb.2 hXl h0 hV3
      have hZ' : Ok (Z.take k ++ (X' ++ Z.drop (k + (C.length + 1)))) := (hZok.take _).append (hXok.append (hZok.drop _))
      have hbel3 := hbel.trans (hbut3.below (Nat.le_refl _))
      generalize Z.take k ++ (X' ++ Z.drop (k + (C.length + 1))) = Z' at *
      obtain ⟨t1, t2, t3⟩ := hst
      have T1 : Hid _ := t1
      have T2 : Hid _ := t2
      clear t1 t2 hV3 hXl h0 h1 hbut3 hcell
      go_wp2_with fail
      go_roundw
      case rel => exact ⟨k + 1, Z', by omega, by go_num, by omega, hZ', hrow3, hbel3, T1.out, T2.out⟩
      case measure => simp [intOf]; omega
    · obtain rfl : k = A.length := by omega
      have HF : Hid (V Z = V a * V b) := by
        show V Z = V a * V b
        rw [HV.out, List.take_length, H1.out, H2.out]
      have hsl := hrow.all hZok (by omega)
      rw [hZl] at hsl
      clear hrow HV HZ
      go_wp2_with fail
      refine (trim_any _ Z _ hsl).mono ?_
      intro e w' hT
      obtain ⟨v, rfl, FIN⟩ := (hT.num (l := a.length + b.length) hbel (Nat.le_refl _) HF.out (by omega)).ends
      clear hT
      go_wp2_with fail
      go_ret
      exact FIN.out
end Go.Proofs.YtbmondbicnfcpaaDoor

/-
  math/bits.Len32: how many bits a number of 32 bits has, as the library's own count says.
-/
namespace Go.Proofs.YtbmondbicnfcpaaDoor
open Go.RowKit

theorem tab_at (i : Nat) (h : i < Lib.len8tab.size) : ((Lib.len8tab[i].toNat : Nat) : Int) = (Lib.bitLen i : Int) ∧ Lib.bitLen i ≤ 8 := by
  have hs := h
  rw [Lib.len8tab_size] at hs
  have e := Lib.len8_eq ⟨i, hs⟩
  have l := Lib.bitLen_le8 ⟨i, hs⟩
  refine ⟨?_, l⟩
  rw [← e]
  simp [Lib.len8, h]

theorem w64 {n : Int} (h0 : -9223372036854775808 ≤ n) (h1 : n ≤ 9223372036854775807) : wrap64 n = n := by
  unfold wrap64; omega

theorem tab_sum (c : Nat) (x : Nat) (i : Int) (hc : c ≤ 24) (h : i.toNat < Lib.len8tab.size) (e : Lib.bitLen x = c + Lib.bitLen i.toNat) : wrap64 (c + wrap64 ((Lib.len8tab[i.toNat].toNat : Nat) : Int)) = (Lib.bitLen x : Int) := by
  obtain ⟨h1, h2⟩ := tab_at i.toNat h
  rw [h1, w64 (n := (Lib.bitLen i.toNat : Int)) (by omega) (by omega), w64 (by omega) (by omega), e]
  omega

theorem no_way {i : Int} {p : Prop} (h0 : 0 ≤ i) (h1 : i ≤ 255) (h : ¬ (0 ≤ i ∧ i < (Lib.len8tab.size : Int))) : p := by
  rw [Lib.len8tab_size] at h
  exact absurd (⟨h0, by omega⟩ : 0 ≤ i ∧ i < ((256 : Nat) : Int)) h

set_option maxHeartbeats 4000000 in
set_option maxRecDepth 100000 in
theorem len32_any (x : Int) (w : World) (h0 : 0 ≤ x) (h1 : x ≤ 4294967295) :
    Calls Tryd.prog 106 #[.int .u32 x] w fun e w' => e = .returned (.int .i64 (Lib.bitLen x.toNat)) ∧ w' = w := by
  go_enter Tryd.func106, Tryd.ntmps106
  go_wp2
  · have a1 : 65536 ≤ x := by assumption
    have a2 : 256 ≤ x / 65536 := by assumption
    have a3 : 0 ≤ x / 65536 / 256 ∧ x / 65536 / 256 < (Lib.len8tab.size : Int) := by assumption
    go_ret
    refine ⟨congrArg Ending.returned (congrArg (Value.int IntKind.i64) (tab_sum 24 x.toNat (x / 65536 / 256) (by omega) (by omega) ?_)), rfl⟩
    rw [Lib.bitLen_shift24 x.toNat (by omega) (by omega), show (x / 65536 / 256).toNat = x.toNat / 16777216 by omega]
  · have a1 : 65536 ≤ x := by assumption
    have a3 : ¬ (0 ≤ x / 65536 / 256 ∧ x / 65536 / 256 < (Lib.len8tab.size : Int)) := by assumption
    exact no_way (by omega) (by omega) a3
  · have a1 : 65536 ≤ x := by assumption
    have a2 : x / 65536 < 256 := by assumption
    have a3 : 0 ≤ x / 65536 ∧ x / 65536 < (Lib.len8tab.size : Int) := by assumption
    go_ret
    refine ⟨congrArg Ending.returned (congrArg (Value.int IntKind.i64) (tab_sum 16 x.toNat (x / 65536) (by omega) (by omega) ?_)), rfl⟩
    rw [Lib.bitLen_shift16 x.toNat (by omega) (by omega), show (x / 65536).toNat = x.toNat / 65536 by omega]
  · have a2 : x / 65536 < 256 := by assumption
    have a3 : ¬ (0 ≤ x / 65536 ∧ x / 65536 < (Lib.len8tab.size : Int)) := by assumption
    exact no_way (by omega) (by omega) a3
  · have a1 : x < 65536 := by assumption
    have a2 : 256 ≤ x := by assumption
    have a3 : 0 ≤ x / 256 ∧ x / 256 < (Lib.len8tab.size : Int) := by assumption
    go_ret
    refine ⟨congrArg Ending.returned (congrArg (Value.int IntKind.i64) (tab_sum 8 x.toNat (x / 256) (by omega) (by omega) ?_)), rfl⟩
    rw [Lib.bitLen_shift8 x.toNat (by omega) (by omega), show (x / 256).toNat = x.toNat / 256 by omega]
  · have a1 : x < 65536 := by assumption
    have a3 : ¬ (0 ≤ x / 256 ∧ x / 256 < (Lib.len8tab.size : Int)) := by assumption
    exact no_way (by omega) (by omega) a3
  · have a1 : x < 256 := by assumption
    have a3 : x < (Lib.len8tab.size : Int) := by assumption
    go_ret
    refine ⟨congrArg Ending.returned (congrArg (Value.int IntKind.i64) ?_), rfl⟩
    have e := tab_sum 0 x.toNat x (by omega) (by omega) (by omega)
    rw [← e]
    congr 1
    show _ = (0 : Int) + _
    omega
  all_goals
    have a1 : x < 256 := by assumption
    have a3 : ¬ x < (Lib.len8tab.size : Int) := by assumption
    exact no_way h0 (by omega) (fun h => a3 h.2)
end Go.Proofs.YtbmondbicnfcpaaDoor

/-
  math/bits.Len32, LeadingZeros32 and limb.Len: how many bits a number has.
-/
namespace Go.Proofs.YtbmondbicnfcpaaDoor
open Go.RowKit
set_option linter.unusedVariables false

/-- 2 to the n. -/
def T : Nat → Int
  | 0 => 1
  | n + 1 => 2 * T n

theorem T_pos (n : Nat) : 0 < T n := by
  induction n with
  | zero => decide
  | succ n ih => simp only [T]; omega
theorem T_add (m n : Nat) : T (m + n) = T m * T n := by
  induction m with
  | zero => simp [T]
  | succ m ih => rw [Nat.succ_add]; simp only [T]; rw [ih, Int.mul_assoc]
theorem T_mono {m n : Nat} (h : m ≤ n) : T m ≤ T n := by
  induction n with
  | zero => obtain rfl : m = 0 := by omega
            exact Int.le_refl _
  | succ n ih =>
    by_cases e : m = n + 1
    · subst e; exact Int.le_refl _
    · have h1 := ih (by omega)
      have h2 := T_pos n
      simp only [T]; omega
theorem T_32 (n : Nat) : T (32 * n) = B n := by
  induction n with
  | zero => rfl
  | succ n ih => rw [show 32 * (n + 1) = 32 + 32 * n by omega, T_add, ih]; rfl

/-- n is how many bits x has. -/
def IsLen (x : Int) (n : Nat) : Prop := (x = 0 ∧ n = 0) ∨ (0 < n ∧ T (n - 1) ≤ x ∧ x < T n)

theorem IsLen.one {x : Int} {m n : Nat} (h : IsLen x m) (k : IsLen x n) : m = n := by
  rcases h with ⟨h1, h2⟩ | ⟨h1, h2, h3⟩ <;> rcases k with ⟨k1, k2⟩ | ⟨k1, k2, k3⟩
  · omega
  · have := T_pos (n - 1); omega
  · have := T_pos (m - 1); omega
  · rcases Nat.lt_trichotomy m n with h | h | h
    · have := T_mono (show m ≤ n - 1 by omega); omega
    · exact h
    · have := T_mono (show n ≤ m - 1 by omega); omega

theorem isLen_bit : ∀ (f x : Nat), x < 2 ^ f → f ≤ 64 → IsLen (x : Int) (Lib.bitLen x)
  | 0, x, h, _ => by
    obtain rfl : x = 0 := by omega
    exact .inl ⟨rfl, rfl⟩
  | f + 1, x, h, hf => by
    by_cases h0 : x = 0
    · subst h0; exact .inl ⟨rfl, rfl⟩
    · have hlt : x < 2 ^ 64 := Nat.lt_of_lt_of_le h (Nat.pow_le_pow_right (by decide) hf)
      rw [Lib.bitLen_half x h0 hlt]
      have ih := isLen_bit f (x / 2) (by rw [Nat.pow_succ] at h; omega) (by omega)
      refine .inr ⟨by omega, ?_⟩
      rw [show 1 + Lib.bitLen (x / 2) - 1 = Lib.bitLen (x / 2) by omega, show 1 + Lib.bitLen (x / 2) = Lib.bitLen (x / 2) + 1 by omega]
      rcases ih with ⟨h1, h2⟩ | ⟨h1, h2, h3⟩
      · rw [h2]; simp only [T]; omega
      · obtain ⟨n, hn⟩ : ∃ n, Lib.bitLen (x / 2) = n + 1 := ⟨Lib.bitLen (x / 2) - 1, by omega⟩
        rw [hn] at h2 h3 ⊢
        simp only [Nat.add_sub_cancel, T] at h2 h3 ⊢
        omega

theorem isLen_V {A : List Int} (ha : Ok A) (hn : 0 < A.length) {m : Nat} (ht : IsLen (A.getD (A.length - 1) 0) m) (hne : A.getD (A.length - 1) 0 ≠ 0) : IsLen (V A) ((A.length - 1) * 32 + m) := by
  rcases ht with ⟨h1, h2⟩ | ⟨h1, h2, h3⟩
  · exact absurd h1 hne
  · have s1 := V_split A (A.length - 1) (by omega)
    have s2 := V_drop A (A.length - 1) (by omega)
    have hz : A.drop (A.length - 1 + 1) = [] := by apply List.drop_eq_nil_of_le; omega
    rw [hz] at s2
    simp only [V, Int.mul_zero, Int.add_zero] at s2
    rw [s2] at s1
    have l1 := V_lt (ha.take (A.length - 1))
    have k1 : (A.take (A.length - 1)).length = A.length - 1 := by simp
    rw [k1] at l1
    have n1 := V_nonneg (ha.take (A.length - 1))
    have hB := B_pos (A.length - 1)
    generalize A.getD (A.length - 1) 0 = t at *
    refine .inr ⟨by omega, ?_, ?_⟩
    · rw [show (A.length - 1) * 32 + m - 1 = 32 * (A.length - 1) + (m - 1) by omega, T_add, T_32]
      have := Int.mul_le_mul_of_nonneg_left h2 (Int.le_of_lt hB)
      omega
    · rw [show (A.length - 1) * 32 + m = 32 * (A.length - 1) + m by omega, T_add, T_32]
      have := Int.mul_le_mul_of_nonneg_left (show t + 1 ≤ T m by omega) (Int.le_of_lt hB)
      rw [Int.mul_add, Int.mul_one] at this
      omega

theorem isLen_u32 (t : Int) (h0 : 0 ≤ t) (h1 : t < 4294967296) : IsLen t (Lib.bitLen t.toNat) ∧ Lib.bitLen t.toNat ≤ 32 := by
  have hp : (2 : Nat) ^ 32 = 4294967296 := by decide
  have ht : t.toNat < 2 ^ 32 := by rw [hp]; omega
  have h := isLen_bit 32 t.toNat ht (by omega)
  rw [Int.toNat_of_nonneg h0] at h
  exact ⟨h, Lib.bitLen_le _ 32 (by omega) ht⟩

def LenPost (w : World) (x : Int) (l : Nat) (e : Ending) (w' : World) : Prop := ∃ n : Nat, e = .returned (.int .i64 n) ∧ w = w' ∧ IsLen x n ∧ n ≤ 32 * l

set_option maxHeartbeats 1000000 in
theorem len_any (va : Value) (a : List Int) (w : World) (ha : Sl w va a) (hla : a.length ≤ 1000000) :
    Calls Tryd.prog 59 #[va] w fun e w' => LenPost w (V a) a.length e w' := by
  obtain ⟨aa, acap, rfl⟩ := ha.shape
  go_enter Tryd.func59, Tryd.ntmps59
  go_wp2_with fail
  refine (trim_any _ a _ ha).mono ?_
  rintro e w' ⟨rfl, v1, n1, rfl, hn1, hs1, hnm1, hv1, -, -, hk1⟩
  have H1 : Hid (V a = V (a.take n1)) := hv1.symm
  have hl1 : (a.take n1).length ≤ a.length := by simp; omega
  have hl2 : (a.take n1).length ≤ 1000000 := by omega
  clear hv1
  generalize a.take n1 = A at *
  obtain ⟨p1, c1, rfl⟩ := hs1.shape
  by_cases h0 : A.length = 0
  · have hb : ((A.length : Int) == 0) = true := beq_iff_eq.2 (by omega)
    have HF : Hid (V a = 0) := by
      show V a = 0
      rw [H1.out, List.eq_nil_of_length_eq_zero h0]; rfl
    go_wp2_with fail
    go_ret
    exact ⟨0, rfl, rfl, .inl ⟨HF.out, rfl⟩, Nat.zero_le _⟩
  · have hb : ((A.length : Int) == 0) = false := beq_eq_false_iff_ne.2 (by omega)
    obtain ⟨b, off, rfl, hcell⟩ := hs1.at (A.length - 1) (by omega)
    have hx := hs1.ok.getD (A.length - 1)
    have hne := hnm1 (by omega)
    have hu := isLen_u32 _ hx.1 hx.2
    have HL := isLen_V hs1.ok (show 0 < A.length by omega) hu.1 hne
    have hbl := hu.2
    clear hu
    rw [← H1.out] at HL
    have HL' : Hid _ := HL
    clear HL hne hnm1 H1
    generalize A.getD (A.length - 1) 0 = t at *
    have hpos : (0 : Int) ≤ (A.length : Int) - 1 := by omega
    have hi : ((A.length : Int) - 1).toNat = A.length - 1 := by omega
    go_wp2_with fail
    refine (len32_any t _ hx.1 (by omega)).mono ?_
    rintro e w' ⟨rfl, hw⟩
    subst hw
    go_wp2_with fail
    go_ret
    refine ⟨(A.length - 1) * 32 + Lib.bitLen t.toNat, ?_, rfl, HL'.out, by omega⟩
    refine congrArg Ending.returned (congrArg (Value.int IntKind.i64) ?_)
    omega
end Go.Proofs.YtbmondbicnfcpaaDoor

/-
  limb.Norm: a list's number, in new memory.
-/
namespace Go.Proofs.YtbmondbicnfcpaaDoor
open Go.RowKit
set_option linter.unusedVariables false

/-- nil, or a block of the call's own that holds just the number. -/
def OwnPost (w : World) (x : Int) (l : Nat) (e : Ending) (w' : World) : Prop :=
  ∃ zs, Ok zs ∧ Nm zs ∧ V zs = x ∧ zs.length ≤ l ∧ Below w.heap.size w w' ∧
    ((zs = [] ∧ e = .returned (.slice none 0 0)) ∨ (0 < zs.length ∧ ∃ g, w.heap.size ≤ g ∧ e = .returned (.slice (some ⟨g, 0, none⟩) zs.length zs.length) ∧ Row w' g zs))

theorem over_full (A : List Int) : over (zer A.length) 0 A = A := by
  simp only [over, List.take_zero, List.nil_append]
  rw [List.drop_eq_nil_of_le (by rw [zer_len]; omega), List.append_nil]

theorem OwnPost.num {w : World} {x : Int} {l : Nat} {e : Ending} {w' : World} (h : OwnPost w x l e w') (hl : l ≤ 1000000) : NumPost w x l e w' := by
  obtain ⟨zs, h1, h2, h3, h4, h5, h6⟩ := h
  rcases h6 with ⟨rfl, rfl⟩ | ⟨h7, g, h8, rfl, h9⟩
  · exact ⟨_, [], rfl, Sl.nil _, h2, h3, h4, h5, fun k hk => by simp [Value.ownBlock] at hk⟩
  · exact ⟨_, zs, rfl, h9.all h1 (by omega), h2, h3, h4, h5, fun k hk => by simp [Value.ownBlock] at hk; omega⟩

set_option maxHeartbeats 1000000 in
theorem norm_any (va : Value) (a : List Int) (w : World) (ha : Sl w va a) (hla : a.length ≤ 1000000) :
    Calls Tryd.prog 58 #[va] w fun e w' => OwnPost w (V a) a.length e w' := by
  obtain ⟨aa, acap, rfl⟩ := ha.shape
  go_enter Tryd.func58, Tryd.ntmps58
  go_wp2_with fail
  refine (trim_any _ a _ ha).mono ?_
  rintro e w' ⟨rfl, v1, n1, rfl, hn1, hs1, hnm1, hv1, -, -, hk1⟩
  have H1 : Hid (V (a.take n1) = V a) := hv1
  have hl1 : (a.take n1).length ≤ a.length := by simp; omega
  have hl2 : (a.take n1).length ≤ 1000000 := by omega
  clear hv1
  generalize a.take n1 = A at *
  obtain ⟨p1, c1, rfl⟩ := hs1.shape
  by_cases h0 : A.length = 0
  · have hb : ((A.length : Int) == 0) = true := beq_iff_eq.2 (by omega)
    go_wp2_with fail
    go_ret
    exact ⟨A, hs1.ok, hnm1, H1.out, hl1, Below.refl _ _, .inl ⟨List.eq_nil_of_length_eq_zero h0, rfl⟩⟩
  · have hb : ((A.length : Int) == 0) = false := beq_eq_false_iff_ne.2 (by omega)
    go_wp2_with (first | (at_make; refine wpList_make_u32 rfl _ _ rfl _ _ A.length rfl rfl (by omega) (by omega) (by omega) ?_; intro w1 hrow1 hbel1; obtain ⟨w2, hcr, hrow2, hbut2⟩ := copy_run w1 w.heap.size 0 A.length A.length p1 A.length c1 _ A hrow1 (hs1.below hbel1) (by rw [zer_len]; omega) (by omega)) | fail)
    go_ret
    rw [over_full] at hrow2
    exact ⟨A, hs1.ok, hnm1, H1.out, hl1, hbel1.trans (hbut2.below (Nat.le_refl _)), .inr ⟨by omega, w.heap.size, Nat.le_refl _, rfl, hrow2⟩⟩
end Go.Proofs.YtbmondbicnfcpaaDoor

/-
  limb.takeTimes: takes l, so many times, from the number in a piece of a block of the call's own; limb.Sub: the difference, 0 where the second is above.
-/
namespace Go.Proofs.YtbmondbicnfcpaaDoor
open Go.RowKit
set_option linter.unusedVariables false

def TakePost (w : World) (g : Nat) (P X S L : List Int) (t : Int) (e : Ending) (w' : World) : Prop :=
  But g w w' ∧ ∃ X' c, e = .returned (.bool (c == 0)) ∧ X'.length = X.length ∧ Ok X' ∧ Row w' g (P ++ (X' ++ S)) ∧ 0 ≤ c ∧ c < 4294967296 ∧ V X' + V (L.take X.length) * t = V X + B X.length * c

/-- One round of takeTimes. -/
theorem take_step (X' X L : List Int) (k : Nat) (cc t x l z o : Int) (hk : k < X'.length) (hx : x = X.getD k 0) (hl : l = L.getD k 0)
    (hV : V (X'.take k) + V (L.take k) * t = V (X.take k) + B k * cc) (hz : z + (cc + l * t) = x + 4294967296 * o) :
    V ((X'.set k z).take (k + 1)) + V (L.take (k + 1)) * t = V (X.take (k + 1)) + B (k + 1) * o := by
  rw [take_set_succ _ _ _ hk, V_take_next X, V_take_next L, ← hx, ← hl]
  have e := congrArg (B k * ·) hz
  simp only [Int.mul_add] at e
  simp only [B]
  rw [Int.add_mul, Int.mul_assoc (B k) l t]
  rw [← Int.mul_assoc (B k) 4294967296 o, Int.mul_comm (B k) 4294967296] at e
  omega

set_option maxHeartbeats 2000000 in
theorem take_any (g cap : Nat) (P X S : List Int) (vl : Value) (L : List Int) (t : Int) (w : World) (hr : Row w g (P ++ (X ++ S))) (hX : Ok X) (hc : X.length ≤ cap) (hm : cap ≤ 9223372036854775807)
    (hl : Sl w vl L) (hne : vl.ownBlock ≠ some g) (ht0 : 0 ≤ t) (ht1 : t < 4294967296) :
    Calls Tryd.prog 136 #[.slice (some ⟨g, P.length, none⟩) X.length cap, vl, .int .u32 t] w fun e w' => TakePost w g P X S L t e w' := by
  obtain ⟨al, lcap, rfl⟩ := hl.shape
  go_enter Tryd.func136, Tryd.ntmps136
  go_wp2_with fail
  go_loopw [7, 12] (fun c i wr => ∃ (k : Nat) (cc : Int) (X' : List Int), k ≤ X.length ∧ i = .int .i64 k ∧ c = .int .u64 cc ∧ 0 ≤ cc ∧ cc < 4294967296 ∧ X'.length = X.length ∧ Ok X' ∧ Row wr g (P ++ (X' ++ S)) ∧ But g w wr ∧
      V (X'.take k) + V (L.take k) * t = V (X.take k) + B k * cc ∧ (∀ j, k ≤ j → X'.getD j 0 = X.getD j 0)) (fun _ i _ => X.length - (intOf i).toNat)
  case atStart => exact ⟨0, 0, X, by omega, rfl, rfl, by omega, by omega, rfl, hX, hr, But.refl _ _, by simp [V], fun _ _ => rfl⟩
  case round =>
    obtain ⟨k, cc, X', hk, rfl, rfl, hc0, hc1, hlen, hok, hrow, hbut, hV, hsame⟩ := hrel
    by_cases hkl : k < X.length
    · have hsl := hl.but hbut hne
      have hcell := hrow.cellIn k (by omega)
      have hfr : wr.frozen? ⟨g, P.length + k, none⟩ = false := hrow.frozen _
      obtain ⟨x, hx⟩ : ∃ x, x = X'.getD k 0 := ⟨_, rfl⟩
      have hxb := hok.getD k
      have hxX : Hid (x = X.getD k 0) := hx.trans (hsame k (Nat.le_refl _))
      rw [← hx] at hcell hxb
      clear hx
      have hV' : Hid _ := hV
      have hsame' : Hid _ := hsame
      clear hV hsame
      by_cases hk2 : k < L.length
      · obtain ⟨b, off, rfl, hlk⟩ := hsl.at k hk2
        have hLk := hl.ok.getD k
        obtain ⟨l, hll⟩ : ∃ l, l = L.getD k 0 := ⟨_, rfl⟩
        have hp := prod_bd hLk.1 hLk.2 ht0 ht1
        rw [← hll] at hlk hLk hp
        have hlH : Hid (l = L.getD k 0) := hll
        clear hll hsl
        by_cases hlow : x < (cc + l * t) % 4294967296
        · go_wp2_with fail
          go_roundw
          case rel =>
            exact ⟨k + 1, _, X'.set k _, by omega, by go_num, rfl, by omega, by omega, by simp [hlen], hok.set _ (by omega) (by omega), hrow.setIn _ (by omega) _, hbut.setCell _ _,
              take_step X' X L k cc t x l _ _ (by omega) hxX.out hlH.out hV'.out (by omega), set_same _ _ _ _ hsame'.out⟩
          case measure => simp [intOf]; omega
        · go_wp2_with fail
          go_roundw
          case rel =>
            exact ⟨k + 1, _, X'.set k _, by omega, by go_num, rfl, by omega, by omega, by simp [hlen], hok.set _ (by omega) (by omega), hrow.setIn _ (by omega) _, hbut.setCell _ _,
              take_step X' X L k cc t x l _ _ (by omega) hxX.out hlH.out hV'.out (by omega), set_same _ _ _ _ hsame'.out⟩
          case measure => simp [intOf]; omega
      · have hlH : Hid ((0 : Int) = L.getD k 0) := by show (0 : Int) = L.getD k 0; simp [List.getD, hk2]
        clear hsl
        by_cases hlow : x < (cc) % 4294967296
        · go_wp2_with fail
          go_roundw
          case rel =>
            exact ⟨k + 1, _, X'.set k _, by omega, by go_num, rfl, by omega, by omega, by simp [hlen], hok.set _ (by omega) (by omega), hrow.setIn _ (by omega) _, hbut.setCell _ _,
              take_step X' X L k cc t x 0 _ _ (by omega) hxX.out hlH.out hV'.out (by omega), set_same _ _ _ _ hsame'.out⟩
          case measure => simp [intOf]; omega
        · go_wp2_with fail
          go_roundw
          case rel =>
            exact ⟨k + 1, _, X'.set k _, by omega, by go_num, rfl, by omega, by omega, by simp [hlen], hok.set _ (by omega) (by omega), hrow.setIn _ (by omega) _, hbut.setCell _ _,
              take_step X' X L k cc t x 0 _ _ (by omega) hxX.out hlH.out hV'.out (by omega), set_same _ _ _ _ hsame'.out⟩
          case measure => simp [intOf]; omega
    · obtain rfl : k = X.length := by omega
      have HV : Hid _ := hV
      clear hV hsame
      go_wp2_with fail
      go_ret
      refine ⟨hbut, X', cc, rfl, hlen, hok, hrow, hc0, hc1, ?_⟩
      have := HV.out
      rwa [List.take_of_length_le (l := X') (by omega), List.take_of_length_le (l := X) (by omega)] at this

theorem take_at (g off n cap : Nat) (P X S : List Int) (vl : Value) (L : List Int) (t : Int) (w : World) (hr : Row w g (P ++ (X ++ S))) (hP : P.length = off) (hn : X.length = n) (hX : Ok X) (hc : n ≤ cap) (hm : cap ≤ 9223372036854775807)
    (hl : Sl w vl L) (hne : vl.ownBlock ≠ some g) (ht0 : 0 ≤ t) (ht1 : t < 4294967296) :
    Calls Tryd.prog 136 #[.slice (some ⟨g, off, none⟩) n cap, vl, .int .u32 t] w fun e w' => TakePost w g P X S L t e w' := by
  subst hP; subst hn
  exact take_any g cap P X S vl L t w hr hX hc hm hl hne ht0 ht1

/-- The difference; 0, if the second is above. -/
def subV (x y : Int) : Int := if y ≤ x then x - y else 0
theorem subV_ge {x y : Int} (h : y ≤ x) : subV x y = x - y := if_pos h
theorem subV_le {x y : Int} (h : x ≤ y) : subV x y = 0 := by
  unfold subV
  by_cases h : y ≤ x
  · rw [if_pos h]; omega
  · rw [if_neg h]

theorem sub_math (A C X' : List Int) (c : Int) (hA : Ok A) (hC : Ok C) (hX : Ok X') (hl : C.length ≤ A.length) (hx : X'.length = A.length) (h0 : 0 ≤ c) (hle : V C ≤ V A)
    (h : V X' + V (C.take A.length) * 1 = V A + B A.length * c) : V X' = V A - V C := by
  rw [List.take_of_length_le hl, Int.mul_one] at h
  have h1 := V_lt hX
  rw [hx] at h1
  have h4 := V_nonneg hA
  by_cases hc : c = 0
  · subst hc; omega
  · have : B A.length * 1 ≤ B A.length * c := Int.mul_le_mul_of_nonneg_left (by omega) (Int.le_of_lt (B_pos _))
    omega

set_option maxHeartbeats 1000000 in
theorem sub_any (va vb : Value) (a b : List Int) (w : World) (ha : Sl w va a) (hb : Sl w vb b) (hla : a.length ≤ 1000000) (hlb : b.length ≤ 1000000) :
    Calls Tryd.prog 95 #[va, vb] w fun e w' => NumPost w (subV (V a) (V b)) a.length e w' := by
  obtain ⟨aa, acap, rfl⟩ := ha.shape
  obtain ⟨ba, bcap, rfl⟩ := hb.shape
  go_enter Tryd.func95, Tryd.ntmps95
  go_wp2_with fail
  refine (cmp_any _ _ a b _ ha hb).mono ?_
  rintro e w1 ⟨rfl, hbel1⟩
  by_cases hle : V a ≤ V b
  · have hs : sg (V a) (V b) ≤ 0 := by
      rcases Int.lt_or_eq_of_le hle with h | h
      · rw [sg_lt h]; omega
      · rw [h, sg_self]; omega
    have HX : Hid (subV (V a) (V b) = 0) := subV_le hle
    clear hle
    generalize sg (V a) (V b) = s at *
    go_wp2_with fail
    go_ret
    exact ⟨_, [], rfl, Sl.nil _, Nm_nil, HX.out.symm, Nat.zero_le _, hbel1, fun k hk => by simp [Value.ownBlock] at hk⟩
  · have hs : sg (V a) (V b) = 1 := sg_gt (by omega)
    rw [hs]
    have HX : Hid (subV (V a) (V b) = V a - V b) := subV_ge (by omega)
    have HLE : Hid (V b < V a) := by show V b < V a; omega
    clear hle hs
    go_wp2_with fail
    refine (norm_any _ a _ (ha.below hbel1) hla).mono ?_
    rintro e w2 ⟨A, hAok, hAn, hAv, hAl, hbel2, hcase⟩
    have hbel12 := hbel1.trans (hbel2.mono hbel1.size)
    have hApos : 0 < A.length := by
      rcases Nat.eq_zero_or_pos A.length with h | h
      · have h1 := List.eq_nil_of_length_eq_zero h
        have h2 := V_nonneg hb.ok
        have h3 := HLE.out
        rw [h1] at hAv
        simp only [V] at hAv
        omega
      · exact h
    rcases hcase with ⟨h, _⟩ | ⟨_, g, hg, rfl, hrowA⟩
    · rw [h] at hApos; simp at hApos
    · have HA : Hid _ := hAv
      clear hAv
      go_wp2_with fail
      refine (trim_any _ b _ (hb.below hbel12)).mono ?_
      rintro e w' ⟨rfl, v2, n2, rfl, hn2, hs2, hnm2, hv2, -, hob2, hk2⟩
      have H2 : Hid (V (b.take n2) = V b) := hv2
      have hl2 : (b.take n2).length ≤ 1000000 := by simp; omega
      have hk2' := hb.old hob2
      clear hv2 hk2 hob2
      generalize b.take n2 = C at *
      obtain ⟨p2, c2, rfl⟩ := hs2.shape
      have hCA : C.length ≤ A.length := by
        rcases Nat.lt_or_ge A.length C.length with h | h
        · have h1 := lt_of_V hAok hs2.ok hnm2 h
          have h2 := HLE.out
          rw [← H2.out, ← HA.out] at h2
          omega
        · exact h
      have hgw : w.heap.size ≤ g := Nat.le_trans hbel1.size hg
      go_wp2_with fail
      refine (take_at g 0 A.length A.length [] A [] _ C 1 _ (by simpa using hrowA) rfl rfl hAok (Nat.le_refl _) (by omega) hs2 (by intro e; have := hk2' _ e; omega) (by decide) (by decide)).mono ?_
      rintro e w3 ⟨hbut3, X', c, rfl, hXl, hXok, hrow3, h0, h1, hV⟩
      have HF : Hid (V X' = subV (V a) (V b)) := by
        show V X' = subV (V a) (V b)
        rw [HX.out, sub_math A C X' c hAok hs2.ok hXok hCA hXl h0 (by have := HLE.out; rw [H2.out, HA.out]; omega) hV, HA.out, H2.out]
      have hbel3 := hbel12.trans (hbut3.below hgw)
      have hsl3 := hrow3
      simp only [List.nil_append, List.append_nil] at hsl3
      have hsl := hsl3.all hXok (by omega)
      rw [hXl] at hsl
      have hXl' : X'.length ≤ a.length := by omega
      clear hV hrow3 hsl3 hbut3 h0 h1 hXl
      generalize (c == 0) = cz at *
      go_wp2_with fail
      refine (trim_any _ X' _ hsl).mono ?_
      intro e w' hT
      obtain ⟨v, rfl, FIN⟩ := (hT.num (l := a.length) hbel3 hgw HF.out (by omega)).ends
      clear hT
      go_wp2_with fail
      go_ret
      exact FIN.out
end Go.Proofs.YtbmondbicnfcpaaDoor

/-
  Slices that came in or are written out in the text, as the walks want them.
-/
namespace Go.Proofs.YtbmondbicnfcpaaDoor
open Go.RowKit
set_option linter.unusedVariables false

/-- A slice of uint32 that came in, as the row's step tells it, is a slice whose numbers are known. -/
theorem sl_of_row {w : World} {a : Option Addr} {len cap : Nat} {zs : List Int}
    (h : (a = none ∧ len = 0 ∧ cap = 0 ∧ zs = []) ∨
      ∃ x, a = some x ∧ len ≤ cap ∧ cap ≤ maxLen ∧ zs.length = cap ∧ (∀ i, i < zs.length → w.cell? (x.add i) = some (.int .u32 (zs.getD i 0))) ∧ ∀ n ∈ zs, (Lit.int .u32 n).wf = true) :
    Sl w (.slice a len cap) (zs.take len) := by
  rcases h with ⟨rfl, rfl, rfl, rfl⟩ | ⟨x, rfl, hl, hm, hz, hc, hw⟩
  · exact Sl.nil w
  · refine ⟨?_, _, len, cap, rfl, by simp; omega, hl, by simpa [maxLen] using hm, fun e => (by cases e), fun h0 => ?_⟩
    · intro z hz'
      have h1 := hw z (List.mem_of_mem_take hz')
      simp [Lit.wf, IntKind.min, IntKind.max, IntKind.signed, IntKind.bits] at h1
      omega
    · obtain ⟨b, off, spot⟩ := x
      have h1 := hc 0 (by omega)
      have hspot : spot = none := by simpa [Addr.add] using World.cell?_spot h1
      subst hspot
      have hlt : b < w.heap.size := by
        have := World.block_lt_of_cell? w _ h1
        simpa [Addr.add] using this
      refine ⟨b, off, rfl, hlt, fun i hi => ?_⟩
      have h2 := hc i (by omega)
      rw [show (⟨b, off, none⟩ : Addr).add i = ⟨b, off + i, none⟩ by unfold Addr.add; split <;> simp_all] at h2
      rw [h2]
      simp [List.getD, hi]

theorem bd64 {n : Int} (h : (Lit.int .i64 n).wf = true) : -9223372036854775808 ≤ n ∧ n ≤ 9223372036854775807 := by
  simp [Lit.wf, IntKind.min, IntKind.max, IntKind.signed, IntKind.bits] at h
  omega

theorem row_lit (w : World) (z : Int) : Row (w.alloc (.cells #[.int .u32 z] 59)) w.heap.size [z] := by
  unfold Row
  exact heap_alloc_new w _

theorem sl_lit (w : World) (z : Int) (h0 : 0 ≤ z) (h1 : z < 4294967296) : Sl (w.alloc (.cells #[.int .u32 z] 59)) (.slice (some ⟨w.heap.size, 0, none⟩) 1 1) [z] :=
  (row_lit w z).all (by intro y hy; simp at hy; omega) (by simp)
end Go.Proofs.YtbmondbicnfcpaaDoor
