/-
  Plain mathematics of texts of integers: a text is parsed back; with a sign behind it, or a 0 ahead of it, it is none.
-/
import Derived.Test.YtmhcgdigccaogaaNumParse
namespace Go.Proofs.Ytmhcgdigccaogaa
open Go.RowKit
set_option linter.unusedVariables false

/-- A list of numbers as bytes. -/
def bys (l : List Int) : List UInt8 := l.map fun n => UInt8.ofNat n.toNat
theorem str_bys (l : List Int) : (strOfNums l).data.toList = bys l := strOfNums_data l
theorem bys_append (a b : List Int) : bys (a ++ b) = bys a ++ bys b := by simp [bys]
theorem str_append (a b : List Int) : strOfNums a ++ strOfNums b = strOfNums (a ++ b) := by
  have h := ByteArray.mk_append_mk (bys a) (bys b)
  rw [← bys_append] at h
  exact h

theorem dgt_digit {d : Nat} (h : d < 10) : dgt (UInt8.ofNat (48 + (d : Int)).toNat) = (d : Int) := by
  unfold dgt
  rw [show ((48 + (d : Int)).toNat) = 48 + d by omega, UInt8.toNat_ofNat']
  omega

theorem rd_dg : ∀ (k n : Nat), n ≤ k → rd (bys (dg n).reverse) = (n : Int) := by
  intro k
  induction k with
  | zero =>
    intro n hn
    obtain rfl : n = 0 := by omega
    rw [dg_small (by decide)]
    decide
  | succ k ih =>
    intro n hn
    by_cases h : n < 10
    · rw [dg_small h]
      show rd ([] ++ [UInt8.ofNat (48 + (n : Int)).toNat]) = _
      rw [rd_snoc, dgt_digit h]
      simp [rd]
    · rw [dg_big h, List.reverse_cons, bys_append]
      show rd (_ ++ [UInt8.ofNat (48 + ((n % 10 : Nat) : Int)).toNat]) = _
      rw [rd_snoc, dgt_digit (by omega), ih (n / 10) (by omega)]
      omega

theorem dg_range {n : Nat} {z : Int} (h : z ∈ dg n) : 48 ≤ z ∧ z ≤ 57 := dg_ok n n (Nat.le_refl _) z h
theorem dg_ne (n : Nat) : dg n ≠ [] := by
  by_cases h : n < 10
  · rw [dg_small h]; simp
  · rw [dg_big h]; simp

/-- The first digit of a number above 0 is not 0. -/
theorem dg_lead : ∀ (k n : Nat), n ≤ k → 0 < n → (dg n).reverse.head? ≠ some 48 := by
  intro k
  induction k with
  | zero => intro n h1 h2; omega
  | succ k ih =>
    intro n hn h0
    by_cases h : n < 10
    · rw [dg_small h]; simp; omega
    · rw [dg_big h, List.reverse_cons]
      have hne : (dg (n / 10)).reverse ≠ [] := by simpa using dg_ne (n / 10)
      have h1 := ih (n / 10) (by omega) (by omega)
      cases hr : (dg (n / 10)).reverse with
      | nil => exact absurd hr hne
      | cons z t =>
        rw [hr] at h1
        simpa using h1

theorem byte_eq {a b : Int} (h0 : 0 ≤ a) (h1 : a < 256) (h2 : 0 ≤ b) (h3 : b < 256) (h : UInt8.ofNat a.toNat = UInt8.ofNat b.toNat) : a = b := by
  have := congrArg UInt8.toNat h
  rw [UInt8.toNat_ofNat', UInt8.toNat_ofNat'] at this
  omega

theorem decL_range {x z : Int} (h : z ∈ decL x) : 0 ≤ z ∧ z < 256 := by
  unfold decL at h
  split at h
  · rcases List.mem_cons.1 h with h | h
    · omega
    · have := dg_range (List.mem_reverse.1 h); omega
  · have := dg_range (List.mem_reverse.1 h); omega

theorem bys_inj {a b : List Int} (ha : ∀ z ∈ a, 0 ≤ z ∧ z < 256) (hb : ∀ z ∈ b, 0 ≤ z ∧ z < 256) (h : bys a = bys b) : a = b := by
  induction a generalizing b with
  | nil =>
    cases b with
    | nil => rfl
    | cons y u => simp [bys] at h
  | cons x t ih =>
    cases b with
    | nil => simp [bys] at h
    | cons y u =>
      have h' : UInt8.ofNat x.toNat = UInt8.ofNat y.toNat ∧ bys t = bys u := by simpa [bys] using h
      have hx := ha x (by simp)
      have hy := hb y (by simp)
      rw [byte_eq hx.1 hx.2 hy.1 hy.2 h'.1, ih (fun z hz => ha z (by simp [hz])) (fun z hz => hb z (by simp [hz])) h'.2]

theorem isM_dec (x : Int) : isM (bys (decL x)) = decide (x < 0) ∧ offM (bys (decL x)) = bys (dg x.natAbs).reverse := by
  by_cases h : x < 0
  · have e : decL x = 45 :: (dg x.natAbs).reverse := by unfold decL; rw [if_pos h]
    have e2 : bys (decL x) = 45 :: bys (dg x.natAbs).reverse := by rw [e]; rfl
    have e3 : isM (bys (decL x)) = true := by rw [e2]; rfl
    refine ⟨by rw [e3]; simp [h], ?_⟩
    unfold offM
    rw [e3, if_pos rfl, e2]
    rfl
  · have e : decL x = (dg x.natAbs).reverse := by unfold decL; rw [if_neg h]
    have e3 : isM (bys (decL x)) = false := by
      rw [e]
      cases hd : (dg x.natAbs).reverse with
      | nil => simpa using absurd hd (by simpa using dg_ne x.natAbs)
      | cons z t =>
        have hz := dg_range (n := x.natAbs) (z := z) (List.mem_reverse.1 (by rw [hd]; simp))
        have hne : UInt8.ofNat z.toNat ≠ 45 := fun h => by
          have := byte_eq (b := 45) (by omega) (by omega) (by decide) (by decide) h
          omega
        simp [isM, bys, hne]
    refine ⟨by rw [e3]; simp [h], ?_⟩
    unfold offM
    rw [e3, if_neg (by simp), e]

theorem dec_len {x : Int} (h0 : -(B 12) < x) (h1 : x < B 12) : 0 < (decL x).length ∧ (decL x).length ≤ 117 := by
  have hd := dec_small (A := x.natAbs) (by omega)
  unfold decL
  split <;> simp <;> omega

theorem parse_dec {x : Int} (h0 : -(B 12) < x) (h1 : x < B 12) : parseS (strOfNums (decL x)) = some x := by
  obtain ⟨e1, e2⟩ := isM_dec x
  have e3 := rd_dg x.natAbs x.natAbs (Nat.le_refl _)
  have hx : parseX (strOfNums (decL x)) = x := by
    unfold parseX
    rw [str_bys, e1, e2, e3]
    by_cases h : x < 0
    · simp [Z, h]; omega
    · simp [Z, h]; omega
  have hl := dec_len h0 h1
  unfold parseS
  rw [if_pos, hx]
  refine ⟨by rw [strOfNums_size]; omega, ⟨by rw [str_bys, e2, e3]; omega, fun h => ?_⟩, by rw [hx]⟩
  rw [str_bys, e2, e3] at h
  rw [str_bys, e1]
  simp; omega

theorem parse_back {s : ByteArray} {y : Int} (h : parseS s = some y) : s = strOfNums (decL y) := by
  unfold parseS at h
  split at h
  · rename_i hc
    injection h with h
    rw [← h]
    exact hc.2.2.symm
  · cases h

theorem parse_dot (x : Int) : parseS (strOfNums (decL x) ++ strOfNums [46]) = none := by
  cases h : parseS (strOfNums (decL x) ++ strOfNums [46]) with
  | none => rfl
  | some y =>
    have e := parse_back h
    rw [str_append] at e
    have e2 := congrArg (fun s : ByteArray => s.data.toList) e
    simp only [str_bys] at e2
    have e3 : decL x ++ [46] = decL y := bys_inj (fun z hz => by
      rcases List.mem_append.1 hz with h | h
      · exact decL_range h
      · simp at h; omega) (fun z hz => decL_range hz) e2
    have h46 : (46 : Int) ∈ decL y := by rw [← e3]; simp
    unfold decL at h46
    split at h46
    · rcases List.mem_cons.1 h46 with h | h
      · omega
      · have := dg_range (List.mem_reverse.1 h); omega
    · have := dg_range (List.mem_reverse.1 h46); omega

theorem parse_nought (x : Int) : parseS (strOfNums [48] ++ strOfNums (decL x)) = none := by
  cases h : parseS (strOfNums [48] ++ strOfNums (decL x)) with
  | none => rfl
  | some y =>
    have e := parse_back h
    rw [str_append] at e
    have e2 := congrArg (fun s : ByteArray => s.data.toList) e
    simp only [str_bys] at e2
    have e3 : [48] ++ decL x = decL y := bys_inj (fun z hz => by
      rcases List.mem_append.1 hz with h | h
      · simp at h; omega
      · exact decL_range h) (fun z hz => decL_range hz) e2
    have hne : decL x ≠ [] := by
      unfold decL
      split
      · simp
      · simpa using dg_ne x.natAbs
    exfalso
    unfold decL at e3
    by_cases hy : y < 0
    · rw [if_pos hy] at e3
      simp at e3
    · rw [if_neg hy] at e3
      by_cases h0 : y.natAbs < 10
      · rw [dg_small h0] at e3
        simp at e3
        exact hne (by unfold decL; exact e3.2)
      · have := dg_lead y.natAbs y.natAbs (Nat.le_refl _) (by omega)
        rw [← e3] at this
        simp at this

/-- One digit more. -/
theorem dg_more {n d : Nat} (hn : 0 < n) (hd : d < 10) : (dg (10 * n + d)).reverse = (dg n).reverse ++ [48 + (d : Int)] := by
  rw [dg_big (by omega), show (10 * n + d) % 10 = d by omega, show (10 * n + d) / 10 = n by omega, List.reverse_cons]
end Go.Proofs.Ytmhcgdigccaogaa
