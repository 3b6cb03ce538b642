/-
  Four bytes as a number and back, plain.
-/
namespace Go.Proofs.YtfjibcldghnjcaaDoor
set_option linter.unusedVariables false
set_option linter.unusedSimpArgs false

/-- Four bytes as a number. -/
def cntL (l : List UInt8) : Nat := (l.getD 0 0).toNat * 16777216 + (l.getD 1 0).toNat * 65536 + (l.getD 2 0).toNat * 256 + (l.getD 3 0).toNat
/-- A number as four bytes. -/
def four (n : Nat) : List UInt8 := [UInt8.ofNat (n / 16777216), UInt8.ofNat (n / 65536), UInt8.ofNat (n / 256), UInt8.ofNat n]
theorem u8n (n : Nat) : (UInt8.ofNat n).toNat = n % 256 := by simp
theorem cnt_four (n : Nat) (h : n < 4294967296) (r : List UInt8) : cntL (four n ++ r) = n := by
  simp [cntL, four]
  omega
theorem cnt_lt (l : List UInt8) : cntL l < 4294967296 := by
  unfold cntL
  have h0 := (l.getD 0 0).toNat_lt
  have h1 := (l.getD 1 0).toNat_lt
  have h2 := (l.getD 2 0).toNat_lt
  have h3 := (l.getD 3 0).toNat_lt
  omega
theorem four_len (n : Nat) : (four n).length = 4 := rfl
theorem four_cnt {l : List UInt8} (h : 4 ≤ l.length) : four (cntL l) = l.take 4 := by
  match l, h with
  | a :: b :: c :: d :: r, _ =>
    have ha := a.toNat_lt
    have hb := b.toNat_lt
    have hc := c.toNat_lt
    have hd := d.toNat_lt
    simp only [four, cntL, List.getD_cons_zero, List.getD_cons_succ, List.take_succ_cons, List.take_zero, List.cons.injEq, and_true]
    refine ⟨UInt8.toNat_inj.1 ?_, UInt8.toNat_inj.1 ?_, UInt8.toNat_inj.1 ?_, UInt8.toNat_inj.1 ?_⟩
    all_goals (rw [u8n]; omega)
end Go.Proofs.YtfjibcldghnjcaaDoor
