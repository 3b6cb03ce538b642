/-
  Files (layer 5), plain: what a file says, what is made, what is parsed.
-/
namespace Go.Proofs.Ytifofcodmgglkaa

/-- A chunk: its name, its data. -/
abbrev Ck := ByteArray × ByteArray
/-- Four bytes as a number. -/
def cntL (l : List UInt8) : Nat := (l.getD 0 0).toNat * 16777216 + (l.getD 1 0).toNat * 65536 + (l.getD 2 0).toNat * 256 + (l.getD 3 0).toNat
/-- A number as four bytes. -/
def four (n : Nat) : List UInt8 := [UInt8.ofNat (n / 16777216), UInt8.ofNat (n / 65536), UInt8.ofNat (n / 256), UInt8.ofNat n]
/-- What is missing to a multiple of four. -/
def mis (n : Nat) : Nat := (4 - n % 4) % 4
/-- A byte of a name. -/
def okc (c : UInt8) : Bool := decide (32 ≤ c.toNat) && decide (c.toNat ≤ 126)
/-- A name. -/
def okN (l : List UInt8) : Bool := decide (l.length = 4) && l.all okc
def zerL (l : List UInt8) : Bool := l.all (fun c => decide (c.toNat = 0))
def ckZ : Ck := (⟨#[]⟩, ⟨#[]⟩)
/-- The chunk that bytes begin with, how many bytes it takes, what is wrong. -/
def fstS (l : List UInt8) : Ck × Nat × Int :=
  if l.length < 8 then (ckZ, 0, 3)
  else if l.length < 8 + cntL (l.drop 4) + mis (cntL (l.drop 4)) then (ckZ, 0, 3)
  else if okN (l.take 4) && zerL (((l.drop 8).drop (cntL (l.drop 4))).take (mis (cntL (l.drop 4)))) then ((⟨(l.take 4).toArray⟩, ⟨((l.drop 8).take (cntL (l.drop 4))).toArray⟩), 8 + cntL (l.drop 4) + mis (cntL (l.drop 4)), 0)
  else (ckZ, 0, 4)
def hasN (acc : List Ck) (s : ByteArray) : Bool := acc.any (fun c => c.1.data.toList == s.data.toList)
/-- The chunks of bytes behind those that are there. -/
def chS : Nat → List Ck → List UInt8 → List Ck × Int
  | 0, acc, _ => (acc, 0)
  | k + 1, acc, l => if l = [] then (acc, 0) else if (fstS l).2.2 ≠ 0 then ([], (fstS l).2.2) else if hasN acc (fstS l).1.1 = true then ([], 6) else chS k (acc ++ [(fstS l).1]) (l.drop (fstS l).2.1)
def markF : List UInt8 := [70, 79, 82, 49]
def markB : List UInt8 := [66, 69, 65, 77]
/-- Does a file begin so? -/
def headed (l : List UInt8) : Bool := (l.take 4 == markF) && ((l.drop 8).take 4 == markB) && decide (cntL (l.drop 4) = l.length - 8)
def parS (l : List UInt8) : List Ck × Int :=
  if 65536 < l.length then ([], 2) else if l.length < 12 then ([], 3) else if headed l = false then ([], 5) else chS (l.drop 12).length [] (l.drop 12)
/-- What is wrong with the names. -/
def refS : List Ck → List Ck → Int
  | _, [] => 0
  | seen, c :: r => if okN c.1.data.toList = false then 1 else if hasN seen c.1 = true then 6 else refS (seen ++ [c]) r
/-- A chunk's bytes. -/
def ckB (c : Ck) : List UInt8 := c.1.data.toList ++ four c.2.size ++ c.2.data.toList ++ List.replicate (mis c.2.size) 0
def bodyS : List Ck → List UInt8
  | [] => []
  | c :: r => ckB c ++ bodyS r
/-- A chunk's size. -/
def ckL (c : Ck) : Nat := 8 + c.2.size + mis c.2.size
def sizS : List Ck → Nat
  | [] => 0
  | c :: r => ckL c + sizS r
def makS (cs : List Ck) : List UInt8 × Int :=
  if refS [] cs ≠ 0 then ([], refS [] cs) else if 65536 < 12 + sizS cs then ([], 2) else (markF ++ four (4 + sizS cs) ++ markB ++ bodyS cs, 0)
/-- The first of a name. -/
def finS : List Ck → ByteArray → ByteArray × Bool
  | [], _ => (⟨#[]⟩, false)
  | c :: r, s => if c.1.data.toList = s.data.toList then (c.2, true) else finS r s

theorem u8n (n : Nat) : (UInt8.ofNat n).toNat = n % 256 := by simp
theorem cnt_four (n : Nat) (h : n < 4294967296) (r : List UInt8) : cntL (four n ++ r) = n := by
  simp [cntL, four]
  omega
theorem mis_lt (n : Nat) : mis n < 4 := by unfold mis; omega
theorem mis_mod (n : Nat) : (n + mis n) % 4 = 0 := by unfold mis; omega
theorem cnt_lt (l : List UInt8) : cntL l < 4294967296 := by
  unfold cntL
  have h0 := (l.getD 0 0).toNat_lt
  have h1 := (l.getD 1 0).toNat_lt
  have h2 := (l.getD 2 0).toNat_lt
  have h3 := (l.getD 3 0).toNat_lt
  omega
theorem four_len (n : Nat) : (four n).length = 4 := rfl

/-- What a good chunk takes is at least 8, and is there. -/
theorem fst_ok {l : List UInt8} (h : (fstS l).2.2 = 0) : 8 ≤ (fstS l).2.1 ∧ (fstS l).2.1 ≤ l.length ∧ okN (fstS l).1.1.data.toList = true := by
  unfold fstS at h ⊢
  split at h
  · simp at h
  · split at h
    · simp at h
    · split at h
      · rename_i h1 h2 h3
        rw [if_neg h1, if_neg h2, if_pos h3]
        simp only [Bool.and_eq_true] at h3
        exact ⟨by dsimp only; omega, by dsimp only; omega, by simpa using h3.1⟩
      · simp at h
theorem fst_err (l : List UInt8) : (fstS l).2.2 = 0 ∨ ((fstS l).1 = ckZ ∧ (fstS l).2.1 = 0 ∧ ((fstS l).2.2 = 3 ∨ (fstS l).2.2 = 4)) := by
  unfold fstS
  split
  · right; simp
  · split
    · right; simp
    · split
      · left; rfl
      · right; simp
/-- More rounds than bytes say nothing more. -/
theorem ch_fuel : ∀ (k : Nat) (acc : List Ck) (l : List UInt8), l.length ≤ k → chS k acc l = chS l.length acc l := by
  intro k
  induction k using Nat.strongRecOn with
  | _ k ih =>
    intro acc l hl
    cases k with
    | zero => rw [show l.length = 0 by omega]
    | succ k =>
      cases l with
      | nil => simp [chS]
      | cons x l =>
        simp only [List.length_cons] at hl ⊢
        simp only [chS]
        split
        · rfl
        · split
          · rfl
          · split
            · rfl
            · rename_i h1 h2 h3
              have h4 := fst_ok (by simpa using h2)
              have h5 : ((x :: l).drop (fstS (x :: l)).2.1).length ≤ l.length := by simp only [List.length_drop, List.length_cons]; omega
              rw [ih k (by omega) _ _ (by omega), ih l.length (by omega) _ _ h5]
theorem ch_step {acc : List Ck} {l : List UInt8} (h0 : l ≠ []) (h1 : (fstS l).2.2 = 0) (h2 : hasN acc (fstS l).1.1 = false) :
    chS l.length acc l = chS (l.drop (fstS l).2.1).length (acc ++ [(fstS l).1]) (l.drop (fstS l).2.1) := by
  cases l with
  | nil => exact absurd rfl h0
  | cons x l =>
    have h4 := fst_ok h1
    have h5 : ((x :: l).drop (fstS (x :: l)).2.1).length ≤ l.length := by simp only [List.length_drop, List.length_cons]; omega
    simp only [List.length_cons, chS]
    rw [if_neg h0, if_neg (by simpa using h1), if_neg (by simp [h2]), ch_fuel _ _ _ h5]
theorem ch_wrong {acc : List Ck} {l : List UInt8} (h0 : l ≠ []) (h1 : (fstS l).2.2 ≠ 0) : chS l.length acc l = ([], (fstS l).2.2) := by
  cases l with
  | nil => exact absurd rfl h0
  | cons x l => simp only [List.length_cons, chS]; rw [if_neg h0, if_pos h1]
theorem ch_twice {acc : List Ck} {l : List UInt8} (h0 : l ≠ []) (h1 : (fstS l).2.2 = 0) (h2 : hasN acc (fstS l).1.1 = true) : chS l.length acc l = ([], 6) := by
  cases l with
  | nil => exact absurd rfl h0
  | cons x l => simp only [List.length_cons, chS]; rw [if_neg h0, if_neg (by simpa using h1), if_pos h2]
theorem ch_nil (acc : List Ck) : chS ([] : List UInt8).length acc [] = (acc, 0) := rfl
theorem ba_ext {a b : ByteArray} (h : a.data.toList = b.data.toList) : a = b := by
  cases a; cases b; simp only at h; congr 1; exact Array.toList_inj.1 h
end Go.Proofs.Ytifofcodmgglkaa
