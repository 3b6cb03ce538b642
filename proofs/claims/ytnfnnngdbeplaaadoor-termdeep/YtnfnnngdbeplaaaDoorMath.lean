/-
  Plain mathematics of numbers by limbs of 32 bits: nothing of the program in it. V is a list's number, B n is 2^32 to the n.
-/
import Derived.KernelRfl
namespace Go.Proofs.YtnfnnngdbeplaaaDoor

/-- A list's number: limbs of 32 bits, the lowest first. -/
def V : List Int → Int
  | [] => 0
  | z :: t => z + 4294967296 * V t

/-- 2^32 to the n. -/
def B : Nat → Int
  | 0 => 1
  | n + 1 => 4294967296 * B n

/-- Each limb fits. -/
def Ok (zs : List Int) : Prop := ∀ z ∈ zs, 0 ≤ z ∧ z < 4294967296

/-- No 0 at the top. -/
def Nm (zs : List Int) : Prop := 0 < zs.length → zs.getD (zs.length - 1) 0 ≠ 0

theorem B_pos (n : Nat) : 0 < B n := by
  induction n with
  | zero => decide
  | succ n ih => simp only [B]; omega

theorem B_add (m n : Nat) : B (m + n) = B m * B n := by
  induction m with
  | zero => simp [B]
  | succ m ih => rw [Nat.succ_add]; simp only [B]; rw [ih, Int.mul_assoc]

theorem B_mono {m n : Nat} (h : m ≤ n) : B m ≤ B n := by
  induction n with
  | zero => obtain rfl : m = 0 := by omega
            exact Int.le_refl _
  | succ n ih =>
    by_cases e : m = n + 1
    · subst e; exact Int.le_refl _
    · have h1 := ih (by omega)
      have h2 := B_pos n
      simp only [B]; omega

theorem V_append (a b : List Int) : V (a ++ b) = V a + B a.length * V b := by
  induction a with
  | nil => simp [V, B]
  | cons z t ih => simp only [List.cons_append, V, ih, List.length_cons, B]; rw [Int.mul_add, Int.mul_assoc]; omega

theorem Ok.cons {z : Int} {t : List Int} (h : Ok (z :: t)) : (0 ≤ z ∧ z < 4294967296) ∧ Ok t :=
  ⟨h z (by simp), fun y hy => h y (by simp [hy])⟩

theorem Ok.append {a b : List Int} (ha : Ok a) (hb : Ok b) : Ok (a ++ b) := by
  intro z hz
  rcases List.mem_append.1 hz with h | h
  · exact ha z h
  · exact hb z h

theorem Ok.take {a : List Int} (ha : Ok a) (k : Nat) : Ok (a.take k) := fun z hz => ha z (List.mem_of_mem_take hz)
theorem Ok.drop {a : List Int} (ha : Ok a) (k : Nat) : Ok (a.drop k) := fun z hz => ha z (List.mem_of_mem_drop hz)
theorem Ok.nil : Ok [] := fun z hz => by cases hz
theorem Ok.rep (n : Nat) : Ok (List.replicate n 0) := by
  intro z hz
  rw [List.mem_replicate] at hz
  omega

theorem Ok.getD {a : List Int} (ha : Ok a) (k : Nat) : 0 ≤ a.getD k 0 ∧ a.getD k 0 < 4294967296 := by
  by_cases h : k < a.length
  · have e : a.getD k 0 = a[k] := by simp [List.getD, h]
    rw [e]; exact ha _ (List.getElem_mem h)
  · have e : a.getD k 0 = 0 := by simp [List.getD, h]
    rw [e]; omega

theorem Ok.opt {a : List Int} (ha : Ok a) (k : Nat) : 0 ≤ a[k]?.getD 0 ∧ a[k]?.getD 0 < 4294967296 := by
  have := ha.getD k
  rwa [List.getD_eq_getElem?_getD] at this

theorem Ok.set {a : List Int} (ha : Ok a) (k : Nat) {z : Int} (h0 : 0 ≤ z) (h1 : z < 4294967296) : Ok (a.set k z) := by
  intro y hy
  rcases List.mem_or_eq_of_mem_set hy with h | h
  · exact ha y h
  · subst h; exact ⟨h0, h1⟩

theorem V_nonneg {a : List Int} (ha : Ok a) : 0 ≤ V a := by
  induction a with
  | nil => simp [V]
  | cons z t ih =>
    have h := ha.cons
    have := ih h.2
    simp only [V]; omega

theorem V_lt {a : List Int} (ha : Ok a) : V a < B a.length := by
  induction a with
  | nil => simp [V, B]
  | cons z t ih =>
    have h := ha.cons
    have := ih h.2
    simp only [V, List.length_cons, B]; omega

theorem V_rep (n : Nat) : V (List.replicate n 0) = 0 := by
  induction n with
  | zero => rfl
  | succ n ih => rw [List.replicate_succ]; simp only [V, ih]; omega

theorem V_zeros {a : List Int} (h : ∀ i, i < a.length → a.getD i 0 = 0) : V a = 0 := by
  induction a with
  | nil => rfl
  | cons z t ih =>
    have h0 := h 0 (by simp)
    have ht := ih (fun i hi => by have := h (i + 1) (by simp; omega); simpa using this)
    simp at h0
    simp only [V, ht, h0]; omega

theorem V_split (a : List Int) (k : Nat) (h : k ≤ a.length) : V a = V (a.take k) + B k * V (a.drop k) := by
  have e := V_append (a.take k) (a.drop k)
  rw [List.take_append_drop] at e
  rw [e, List.length_take, Nat.min_eq_left h]

theorem V_take_succ (a : List Int) (k : Nat) (h : k < a.length) : V (a.take (k + 1)) = V (a.take k) + B k * a.getD k 0 := by
  rw [List.take_succ_eq_append_getElem h, V_append]
  have e : a.getD k 0 = a[k] := by simp [List.getD, h]
  rw [e, List.length_take, Nat.min_eq_left (Nat.le_of_lt h)]
  simp [V]

theorem V_drop (a : List Int) (k : Nat) (h : k < a.length) : V (a.drop k) = a.getD k 0 + 4294967296 * V (a.drop (k + 1)) := by
  rw [List.drop_eq_getElem_cons h]
  have e : a.getD k 0 = a[k] := by simp [List.getD, h]
  rw [e]; rfl

/-- Numbers with no 0 at the top are at least as great as their length says. -/
theorem V_ge {a : List Int} (ha : Ok a) (hn : Nm a) (h0 : 0 < a.length) : B (a.length - 1) ≤ V a := by
  have hs := V_split a (a.length - 1) (by omega)
  have hd := V_drop a (a.length - 1) (by omega)
  have hz : a.drop (a.length - 1 + 1) = [] := by apply List.drop_eq_nil_of_le; omega
  rw [hz] at hd
  have hne := hn h0
  have hb := ha.getD (a.length - 1)
  have ht := V_nonneg (ha.take (a.length - 1))
  simp only [V] at hd
  have h1 : 1 ≤ V (a.drop (a.length - 1)) := by omega
  have h2 := Int.mul_le_mul_of_nonneg_left h1 (Int.le_of_lt (B_pos (a.length - 1)))
  omega

theorem lt_of_V {a b : List Int} (ha : Ok a) (hb : Ok b) (hnb : Nm b) (h : a.length < b.length) : V a < V b := by
  have h1 := V_lt ha
  have h2 := V_ge hb hnb (by omega)
  have h3 := B_mono (show a.length ≤ b.length - 1 by omega)
  omega

/-- A number of no 0 at its top has one list. -/
theorem V_inj {a b : List Int} (ha : Ok a) (hb : Ok b) (hl : a.length = b.length) (h : V a = V b) : a = b := by
  induction a generalizing b with
  | nil => cases b with
    | nil => rfl
    | cons y u => simp at hl
  | cons z t ih =>
    cases b with
    | nil => simp at hl
    | cons y u =>
      have h1 := ha.cons
      have h2 := hb.cons
      simp only [V] at h
      have e : z = y := by omega
      have e2 : V t = V u := by omega
      rw [e, ih h1.2 h2.2 (by simpa using hl) e2]

theorem Nm_inj {a b : List Int} (ha : Ok a) (hb : Ok b) (na : Nm a) (nb : Nm b) (h : V a = V b) : a = b := by
  refine V_inj ha hb ?_ h
  rcases Nat.lt_trichotomy a.length b.length with h1 | h1 | h1
  · have := lt_of_V ha hb nb h1; omega
  · exact h1
  · have := lt_of_V hb ha na h1; omega

theorem Nm_nil : Nm [] := fun h => by simp at h

/-- What is 0 has no limb. -/
theorem len_zero {a : List Int} (ha : Ok a) (na : Nm a) (h : V a = 0) : a = [] :=
  Nm_inj ha Ok.nil na Nm_nil (by simpa [V] using h)

theorem V_trim (a : List Int) (n : Nat) (hn : n ≤ a.length) (h : ∀ i, n ≤ i → i < a.length → a.getD i 0 = 0) : V (a.take n) = V a := by
  rw [V_split a n hn]
  have : V (a.drop n) = 0 := by
    apply V_zeros
    intro i hi
    have := h (n + i) (by omega) (by simp at hi; omega)
    simpa [List.getD] using this
  rw [this]; omega

theorem Nm_take (a : List Int) (n : Nat) (hn : n ≤ a.length) (h : 0 < n → a.getD (n - 1) 0 ≠ 0) : Nm (a.take n) := by
  intro h0
  have e : (a.take n).length = n := by simp; omega
  rw [e] at h0 ⊢
  have := h h0
  simpa [List.getD, show n - 1 < n by omega] using this

theorem V_set (a : List Int) (k : Nat) (z : Int) (h : k < a.length) : V (a.set k z) = V a + B k * (z - a.getD k 0) := by
  have s1 := V_split a k (by omega)
  have s2 := V_drop a k h
  have e1 := V_split (a.set k z) k (by simp; omega)
  have e2 := V_drop (a.set k z) k (by simp; omega)
  have e3 : (a.set k z).take k = a.take k := by rw [List.take_set_of_le (by omega)]
  have e4 : (a.set k z).drop (k + 1) = a.drop (k + 1) := by rw [List.drop_set_of_lt (by omega)]
  have e5 : (a.set k z).getD k 0 = z := by simp [List.getD, h]
  rw [e1, e3, e2, e4, e5, s1, s2, Int.mul_add, Int.mul_add, Int.mul_sub]
  omega

/-- -1, 0, 1: below, the same, above. -/
def sg (x y : Int) : Int := if x < y then -1 else if y < x then 1 else 0

theorem sg_self (x : Int) : sg x x = 0 := by simp [sg]
theorem sg_eq {x y : Int} (h : x = y) : sg x y = 0 := by rw [h]; exact sg_self y
theorem sg_lt {x y : Int} (h : x < y) : sg x y = -1 := by simp [sg, h]
theorem sg_gt {x y : Int} (h : y < x) : sg x y = 1 := by
  simp only [sg]; rw [if_neg (by omega), if_pos h]
theorem sg_zero {x y : Int} (h : sg x y = 0) : x = y := by
  rcases Int.lt_trichotomy x y with h1 | h1 | h1
  · rw [sg_lt h1] at h; omega
  · exact h1
  · rw [sg_gt h1] at h; omega

theorem sg_swap (x y : Int) : sg y x = - sg x y := by
  rcases Int.lt_trichotomy x y with h | h | h
  · rw [sg_lt h, sg_gt h]; rfl
  · rw [h, sg_self]; rfl
  · rw [sg_lt h, sg_gt h]
theorem sg_add (x y z : Int) : sg (x + z) (y + z) = sg x y := by
  rcases Int.lt_trichotomy x y with h | h | h
  · rw [sg_lt h, sg_lt (by omega)]
  · rw [h]; rw [sg_self, sg_self]
  · rw [sg_gt h, sg_gt (by omega)]
theorem sg_bd (x y : Int) : -1 ≤ sg x y ∧ sg x y ≤ 1 := by
  rcases Int.lt_trichotomy x y with h | h | h
  · rw [sg_lt h]; omega
  · rw [h, sg_self]; omega
  · rw [sg_gt h]; omega

theorem sg_len {A C : List Int} (ha : Ok A) (hc : Ok C) (na : Nm A) (nc : Nm C) (h : A.length ≠ C.length) : sg (A.length : Int) (C.length : Int) = sg (V A) (V C) := by
  rcases Nat.lt_trichotomy A.length C.length with h1 | h1 | h1
  · rw [sg_lt (by omega), sg_lt (lt_of_V ha hc nc h1)]
  · exact absurd h1 h
  · rw [sg_gt (by omega), sg_gt (lt_of_V hc ha na h1)]

/-- The first limb from the top that differs says which is above. -/
theorem sg_top {A C : List Int} (ha : Ok A) (hc : Ok C) (q : Nat) (hq : q < A.length) (hl : A.length = C.length) (h : ∀ j, q + 1 ≤ j → j < A.length → A.getD j 0 = C.getD j 0)
    (hne : A.getD q 0 ≠ C.getD q 0) : sg (A.getD q 0) (C.getD q 0) = sg (V A) (V C) := by
  have s1 := V_split A q (by omega)
  have s2 := V_split C q (by omega)
  have d1 := V_drop A q hq
  have d2 := V_drop C q (by omega)
  have e : A.drop (q + 1) = C.drop (q + 1) := by
    apply List.ext_getElem (by simp; omega)
    intro j h1 h2
    have := h (q + 1 + j) (by omega) (by simp at h1; omega)
    simp at h1 h2
    simpa [List.getD, show q + 1 + j < A.length by omega, show q + 1 + j < C.length by omega] using this
  rw [e] at d1
  generalize V (C.drop (q + 1)) = X at *
  have l1 := V_lt (ha.take q)
  have l2 := V_lt (hc.take q)
  have k1 : (A.take q).length = q := by simp; omega
  have k2 : (C.take q).length = q := by simp; omega
  rw [k1] at l1
  rw [k2] at l2
  have n1 := V_nonneg (ha.take q)
  have n2 := V_nonneg (hc.take q)
  have hB := B_pos q
  rcases Int.lt_trichotomy (A.getD q 0) (C.getD q 0) with h1 | h1 | h1
  · have : B q * (A.getD q 0 + 4294967296 * X + 1) ≤ B q * (C.getD q 0 + 4294967296 * X) := Int.mul_le_mul_of_nonneg_left (by omega) (by omega)
    rw [Int.mul_add, Int.mul_one] at this
    rw [d1] at s1; rw [d2] at s2
    rw [sg_lt h1, sg_lt (by omega)]
  · exact absurd h1 hne
  · have : B q * (C.getD q 0 + 4294967296 * X + 1) ≤ B q * (A.getD q 0 + 4294967296 * X) := Int.mul_le_mul_of_nonneg_left (by omega) (by omega)
    rw [Int.mul_add, Int.mul_one] at this
    rw [d1] at s1; rw [d2] at s2
    rw [sg_gt h1, sg_gt (by omega)]

theorem V_take_next (a : List Int) (k : Nat) : V (a.take (k + 1)) = V (a.take k) + B k * a.getD k 0 := by
  by_cases h : k < a.length
  · exact V_take_succ a k h
  · have e1 : a.take (k + 1) = a := List.take_of_length_le (by omega)
    have e2 : a.take k = a := List.take_of_length_le (by omega)
    have e3 : a.getD k 0 = 0 := by simp [List.getD, h]
    rw [e1, e2, e3]; omega

theorem take_set_succ (a : List Int) (k : Nat) (z : Int) (h : k < a.length) : V ((a.set k z).take (k + 1)) = V (a.take k) + B k * z := by
  rw [V_take_next, List.take_set_of_le (by omega)]
  have : (a.set k z).getD k 0 = z := by simp [List.getD, h]
  rw [this]

/-- One round of addTimes. -/
theorem addT_step (X' X L : List Int) (k : Nat) (cc t x l : Int) (hk : k < X'.length) (hx : x = X.getD k 0) (hl : l = L.getD k 0)
    (hV : V (X'.take k) + B k * cc = V (X.take k) + V (L.take k) * t) :
    V ((X'.set k ((cc + l * t + x) % 4294967296)).take (k + 1)) + B (k + 1) * ((cc + l * t + x) / 4294967296) = V (X.take (k + 1)) + V (L.take (k + 1)) * t := by
  rw [take_set_succ _ _ _ hk, V_take_next X, V_take_next L, ← hx, ← hl]
  generalize hs : cc + l * t + x = s
  have hd : s % 4294967296 + 4294967296 * (s / 4294967296) = s := by omega
  have e : B k * (s % 4294967296) + B (k + 1) * (s / 4294967296) = B k * s := by
    simp only [B]
    rw [Int.mul_comm 4294967296 (B k), Int.mul_assoc, ← Int.mul_add, hd]
  rw [← hs] at e
  rw [Int.mul_add, Int.mul_add] at e
  rw [Int.add_mul, Int.mul_assoc]
  rw [← hs]
  omega

theorem set_same (X' X : List Int) (k : Nat) (z : Int) (h : ∀ j, k ≤ j → X'.getD j 0 = X.getD j 0) : ∀ j, k + 1 ≤ j → (X'.set k z).getD j 0 = X.getD j 0 := by
  intro j hj
  rw [← h j (by omega)]
  simp only [List.getD_eq_getElem?_getD]
  rw [List.getElem?_set_ne (by omega)]

theorem prod_bd {l t : Int} (h0 : 0 ≤ l) (h1 : l < 4294967296) (h2 : 0 ≤ t) (h3 : t < 4294967296) : 0 ≤ l * t ∧ l * t ≤ 18446744065119617025 := by
  refine ⟨Int.mul_nonneg h0 h2, ?_⟩
  have := Int.mul_le_mul (show l ≤ 4294967295 by omega) (show t ≤ 4294967295 by omega) h2 (by omega)
  omega

end Go.Proofs.YtnfnnngdbeplaaaDoor
