/-
  Operands as bytes, plain.
-/
import Derived.Test.YtfjibcldghnjcaaDoorByMath
namespace Go.Proofs.YtfjibcldghnjcaaDoor
set_option linter.unusedVariables false
set_option linter.unusedSimpArgs false

/-- A number's lowest eight bits. -/
def ub8 (z : Int) : UInt8 := UInt8.ofNat (z % 256).toNat
theorem u8i (z : Int) : ((ub8 z).toNat : Int) = z % 256 := by
  unfold ub8
  rw [u8n]
  omega
/-- So many bytes of a number, the highest first, and of these the first k. -/
def dnB (s : Nat) (n : Int) (k : Nat) : List UInt8 := (List.range k).map fun j => ub8 (n / 2 ^ ((s - 1 - j) * 8))
theorem dnB_succ (s : Nat) (n : Int) (k : Nat) : dnB s n (k + 1) = dnB s n k ++ [ub8 (n / 2 ^ ((s - 1 - k) * 8))] := by simp [dnB, List.range_succ]
theorem dnB_len (s : Nat) (n : Int) (k : Nat) : (dnB s n k).length = k := by simp [dnB]
/-- Whether a number has room in so many bytes. -/
def roomB (t n : Int) (s : Nat) : Bool := if t = 1 then decide (n / 2 ^ (s * 8 - 1) = 0 ∨ n / 2 ^ (s * 8 - 1) = -1) else decide (n / 2 ^ (s * 8) = 0)
/-- In how many. -/
def szN (t n : Int) : Nat := if roomB t n 2 then 2 else if roomB t n 3 then 3 else if roomB t n 4 then 4 else if roomB t n 5 then 5 else if roomB t n 6 then 6 else if roomB t n 7 then 7 else 8
/-- A number of a tag. -/
def numB (t n : Int) : List UInt8 :=
  if 0 ≤ n ∧ n < 16 then [ub8 (n * 16 + t)]
  else if t ≠ 1 ∧ n < 2048 then [ub8 (n / 256 * 32 + 8 + t), ub8 n]
  else ub8 (((szN t n : Int) - 2) * 32 + 24 + t) :: dnB (szN t n) n (szN t n)
/-- Whether an operand that is no list may be. -/
def okN1 (t n : Int) : Bool := if t = 1 then decide (-576460752303423488 ≤ n ∧ n ≤ 576460752303423487) else decide (0 ≤ t ∧ t ≤ 6 ∧ 0 ≤ n ∧ n ≤ 268435455)
/-- An operand that is no list. -/
def sglB (t n : Int) : List UInt8 := if t = 6 then 71 :: numB 0 n else numB t n
/-- How many bytes stand behind a first one. -/
def szF (f : Nat) : Int × Bool :=
  if 5 < f % 8 then (0, false) else if f / 8 % 2 = 0 then (0, true) else if f / 16 % 2 = 0 then (1, decide (f % 8 ≠ 1)) else ((f / 32 + 2 : Nat), decide (f / 32 + 2 ≤ if f % 8 = 1 then 8 else 4))
/-- The number that is told. -/
def accN (a : Int) (r : List UInt8) : Int := r.foldl (fun n x => n * 256 + (x.toNat : Int)) a
theorem acc_snoc (a : Int) (r : List UInt8) (x : UInt8) : accN a (r ++ [x]) = accN a r * 256 + (x.toNat : Int) := by simp [accN]
def begN (f : Nat) (r : List UInt8) : Int := if f / 8 % 2 = 0 then (f / 16 : Nat) else if f / 16 % 2 = 0 then (f / 32 : Nat) else if f % 8 = 1 ∧ 128 ≤ (r.getD 0 0).toNat then -1 else 0
def valN (f : Nat) (r : List UInt8) : Int := accN (begN f r) r

/-- What is read: what is wrong, or a tag, a number and how many bytes. -/
structure Rd where
  mk ::
  e : Int
  t : Int
  n : Int
  k : Nat
def Rd.bad (e : Int) : Rd := ⟨e, 0, 0, 0⟩
/-- A number at the beginning of bytes. -/
def numR (l : List UInt8) : Rd :=
  if l.length < 1 then .bad 3
  else if (szF (l.getD 0 0).toNat).2 = false then .bad 4
  else if ((l.length : Int) - 1) < (szF (l.getD 0 0).toNat).1 then .bad 3
  else if okN1 (((l.getD 0 0).toNat % 8 : Nat)) (valN (l.getD 0 0).toNat ((l.drop 1).take (szF (l.getD 0 0).toNat).1.toNat)) = true ∧ sglB (((l.getD 0 0).toNat % 8 : Nat)) (valN (l.getD 0 0).toNat ((l.drop 1).take (szF (l.getD 0 0).toNat).1.toNat)) = l.take (1 + (szF (l.getD 0 0).toNat).1.toNat) then
    ⟨0, (((l.getD 0 0).toNat % 8 : Nat)), valN (l.getD 0 0).toNat ((l.drop 1).take (szF (l.getD 0 0).toNat).1.toNat), 1 + (szF (l.getD 0 0).toNat).1.toNat⟩
  else .bad 4
/-- A number as of the tag 0. -/
def plnR (l : List UInt8) : Rd := if 0 < l.length ∧ (l.getD 0 0).toNat % 8 ≠ 0 then .bad 4 else numR l
/-- An operand that is no list. -/
def sglR (l : List UInt8) : Rd :=
  if 0 < l.length ∧ l.getD 0 0 = 71 then (if (plnR (l.drop 1)).e = 0 then ⟨0, 6, (plnR (l.drop 1)).n, 1 + (plnR (l.drop 1)).k⟩ else .bad (plnR (l.drop 1)).e) else numR l
/-- So many of them: what is wrong, what was read, how many bytes. -/
def sglsR : Nat → List UInt8 → Int × List (Int × Int) × Nat
  | 0, _ => (0, [], 0)
  | m + 1, l => if (sglR l).e = 0 then
      (if (sglsR m (l.drop (sglR l).k)).1 = 0 then (0, ((sglR l).t, (sglR l).n) :: (sglsR m (l.drop (sglR l).k)).2.1, (sglR l).k + (sglsR m (l.drop (sglR l).k)).2.2) else ((sglsR m (l.drop (sglR l).k)).1, [], 0))
    else ((sglR l).e, [], 0)
/-- An operand: a tag, a number, a list of tags and numbers. -/
structure Ar where
  mk ::
  t : Int
  n : Int
  l : List (Int × Int)
def Ar.zero : Ar := ⟨0, 0, []⟩
def Ar.ok (a : Ar) : Bool := if a.t = 7 then decide (a.n = 0 ∧ a.l.length ≤ 40) && a.l.all (fun p => okN1 p.1 p.2) else okN1 a.t a.n && decide (a.l = [])
def Ar.put (a : Ar) : List UInt8 := if a.t = 7 then 23 :: (numB 0 (a.l.length : Int) ++ (a.l.map fun p => sglB p.1 p.2).flatten) else sglB a.t a.n
/-- The operand at the beginning of bytes: what is wrong, the operand, how many bytes. -/
def opR (l : List UInt8) : Int × Ar × Nat :=
  if 0 < l.length ∧ l.getD 0 0 = 23 then
    (if (plnR (l.drop 1)).e ≠ 0 then ((plnR (l.drop 1)).e, .zero, 0)
     else if 40 < (plnR (l.drop 1)).n then (4, .zero, 0)
     else if (sglsR (plnR (l.drop 1)).n.toNat (l.drop (1 + (plnR (l.drop 1)).k))).1 = 0 then (0, ⟨7, 0, (sglsR (plnR (l.drop 1)).n.toNat (l.drop (1 + (plnR (l.drop 1)).k))).2.1⟩, 1 + (plnR (l.drop 1)).k + (sglsR (plnR (l.drop 1)).n.toNat (l.drop (1 + (plnR (l.drop 1)).k))).2.2)
     else ((sglsR (plnR (l.drop 1)).n.toNat (l.drop (1 + (plnR (l.drop 1)).k))).1, .zero, 0))
  else if (sglR l).e = 0 then (0, ⟨(sglR l).t, (sglR l).n, []⟩, (sglR l).k) else ((sglR l).e, .zero, 0)
/-- .. from a place on: what Get answers. -/
def getS (l : List UInt8) (at' : Int) : Ar × Int × Int :=
  if at' < 0 ∨ (l.length : Int) < at' then (.zero, 0, 1)
  else if (opR (l.drop at'.toNat)).1 = 0 then ((opR (l.drop at'.toNat)).2.1, at' + (opR (l.drop at'.toNat)).2.2, 0)
  else (.zero, 0, (opR (l.drop at'.toNat)).1)
end Go.Proofs.YtfjibcldghnjcaaDoor
