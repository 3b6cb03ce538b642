
/-
  The order of tuples and of lists of numbers.
-/
import Derived.Test.YtfcdocgjmgpmkaaDoorTermCmpS
import Derived.Test.YtfcdocgjmgpmkaaDoorTermList
import Derived.Test.YtfcdocgjmgpmkaaDoorTermI1
namespace Go.Proofs.YtfcdocgjmgpmkaaDoor
open Go.RowKit
set_option linter.unusedVariables false
set_option linter.unusedSimpArgs false

/-- A tree of a number. -/
def isI (t : Tm) : Prop := ∃ n z, t = .mk 1 n z ⟨#[]⟩ 0 []
def tupT (K : List Tm) : Tm := .mk 5 false [] ⟨#[]⟩ 0 K
def lexF : List Int → List Int → Int
  | x :: xs, y :: ys => if sg x y = 0 then lexF xs ys else sg x y
  | _, _ => 0
def lexL : List Int → List Int → Int
  | [], [] => 0
  | [], _ :: _ => -1
  | _ :: _, [] => 1
  | x :: xs, y :: ys => if sg x y = 0 then lexL xs ys else sg x y
theorem lexF_nil (ys : List Int) : lexF [] ys = 0 := by cases ys <;> rfl
theorem lexF_nil' (xs : List Int) : lexF xs [] = 0 := by cases xs <;> rfl
theorem lexF_same {x y : Int} {xs ys : List Int} (h : sg x y = 0) : lexF (x :: xs) (y :: ys) = lexF xs ys := by simp [lexF, h]
theorem lexF_diff {x y : Int} {xs ys : List Int} (h : sg x y ≠ 0) : lexF (x :: xs) (y :: ys) = sg x y := by simp [lexF, h]
theorem lexL_eq : ∀ (xs ys : List Int), lexL xs ys = if lexF xs ys = 0 then sg (xs.length : Int) (ys.length : Int) else lexF xs ys
  | [], [] => by rw [lexF_nil, if_pos rfl]; rfl
  | [], y :: ys => by
    rw [lexF_nil, if_pos rfl]
    show -1 = sg (0 : Int) (((y :: ys).length : Nat) : Int)
    rw [sg_lt (by simp)]
  | x :: xs, [] => by
    rw [lexF_nil', if_pos rfl]
    show 1 = sg (((x :: xs).length : Nat) : Int) (0 : Int)
    rw [sg_gt (by simp)]
  | x :: xs, y :: ys => by
    have e : sg ((x :: xs).length : Int) ((y :: ys).length : Int) = sg (xs.length : Int) (ys.length : Int) := by
      unfold sg
      simp only [List.length_cons]
      by_cases h1 : (xs.length : Int) < ys.length
      · rw [if_pos h1, if_pos (by omega)]
      · rw [if_neg h1, if_neg (by omega)]
        by_cases h2 : (ys.length : Int) < xs.length
        · rw [if_pos h2, if_pos (by omega)]
        · rw [if_neg h2, if_neg (by omega)]
    by_cases h : sg x y = 0
    · rw [lexF_same h, e, ← lexL_eq xs ys]
      simp [lexL, h]
    · rw [lexF_diff h, if_neg h]
      simp [lexL, h]
theorem isI_cmp1 {a b : Tm} (ha : isI a) (hb : isI b) : a.cmp1 b = sg (tval a) (tval b) := by
  obtain ⟨n, z, rfl⟩ := ha
  obtain ⟨m, y, rfl⟩ := hb
  unfold Tm.cmp1 compareR tval
  simp [Tm.kind, Tm.neg, Tm.limbs, sg_self]
theorem isI_parts {a : Tm} (ha : isI a) : a.cparts = [] := by
  obtain ⟨n, z, rfl⟩ := ha
  simp [Tm.cparts, Tm.parts, Tm.kind]
theorem isI_nodes {a : Tm} (ha : isI a) : a.nodes = 1 := by
  obtain ⟨n, z, rfl⟩ := ha
  simp [Tm.nodes_mk, nodesL]
theorem isI_cons2 {a : Tm} (ha : isI a) : a.cons2 := by
  obtain ⟨n, z, rfl⟩ := ha
  simp [Tm.cons2_mk, cons2L]
theorem ints_nodes : ∀ {A : List Tm}, (∀ t ∈ A, isI t) → nodesL A = A.length
  | [], _ => rfl
  | a :: A, h => by
    have h1 := isI_nodes (h a (by simp))
    have h2 := ints_nodes (A := A) (fun t ht => h t (List.mem_cons_of_mem _ ht))
    simp only [nodesL, List.length_cons]
    omega
theorem ints_cons2 : ∀ {A : List Tm}, (∀ t ∈ A, isI t) → cons2L A
  | [], _ => by simp [cons2L]
  | a :: A, h => by simp only [cons2L]; exact ⟨isI_cons2 (h a (by simp)), ints_cons2 (fun t ht => h t (by simp [ht]))⟩
theorem sbF_ints : ∀ (n : Nat) (A B : List Tm), (∀ t ∈ A, isI t) → (∀ t ∈ B, isI t) → A.length ≤ n → sbF Tm.cmp1 Tm.cparts n A B = lexF (A.map tval) (B.map tval)
  | 0, A, B, _, _, h => by
    obtain rfl : A = [] := List.eq_nil_of_length_eq_zero (by omega)
    simp [sbF, lexF]
  | n + 1, [], B, _, _, _ => by simp [sbF, lexF]
  | n + 1, a :: A, [], _, _, _ => by simp [sbF, lexF]
  | n + 1, a :: A, b :: B, ha, hb, h => by
    simp only [sbF, lexF, List.map_cons]
    rw [isI_cmp1 (ha a (by simp)) (hb b (by simp)), isI_parts (ha a (by simp)), isI_parts (hb b (by simp)), List.nil_append, List.nil_append, sbF_ints n A B (fun t ht => ha t (by simp [ht])) (fun t ht => hb t (by simp [ht])) (by simp at h; omega)]
theorem tup_cmp {A B : List Tm} (ha : ∀ t ∈ A, isI t) (hb : ∀ t ∈ B, isI t) : (tupT A).cmp (tupT B) = if sg (A.length : Int) (B.length : Int) = 0 then lexF (A.map tval) (B.map tval) else sg (A.length : Int) (B.length : Int) := by
  have e1 : (tupT A).cmp1 (tupT B) = sg (A.length : Int) (B.length : Int) := by
    unfold Tm.cmp1 compareR tupT
    simp [Tm.kind, Tm.kids, sg_self]
  unfold Tm.cmp
  rw [sbF_step cparts_nodes _ _ _ _ _ (by simp [nodesL]), e1]
  have p1 : (tupT A).cparts = A := by simp [tupT, Tm.cparts, Tm.parts, Tm.kind, Tm.kids]
  have p2 : (tupT B).cparts = B := by simp [tupT, Tm.cparts, Tm.parts, Tm.kind, Tm.kids]
  rw [p1, p2, List.append_nil, List.append_nil, sbF_ints _ _ _ ha hb]
  rw [tupT, Tm.nodes_mk, ints_nodes ha]
  omega
theorem list_nodes : ∀ (A : List Tm), (∀ t ∈ A, isI t) → (listT A tmNil).nodes = 2 * A.length + 1
  | [], _ => by simp [listT, tmNil, Tm.nodes_mk, nodesL]
  | a :: A, h => by
    have := list_nodes A (fun t ht => h t (by simp [ht]))
    show (consT a (listT A tmNil)).nodes = _
    simp only [consT, Tm.nodes_mk, nodesL, isI_nodes (h a (by simp)), this, List.length_cons]
    omega
theorem list_cons2 : ∀ (A : List Tm), (∀ t ∈ A, isI t) → (listT A tmNil).cons2
  | [], _ => by simp [listT, tmNil, Tm.cons2_mk, cons2L]
  | a :: A, h => by
    have := list_cons2 A (fun t ht => h t (by simp [ht]))
    show (consT a (listT A tmNil)).cons2
    simp only [consT, Tm.cons2_mk, cons2L]
    exact ⟨by simp, isI_cons2 (h a (by simp)), this, trivial⟩
theorem sbF_eq0 {jd : Tm → Tm → Int} {pt : Tm → List Tm} {n : Nat} {x y : Tm} {xs ys : List Tm} (h : jd x y = 0) : sbF jd pt (n + 1) (x :: xs) (y :: ys) = sbF jd pt n (pt x ++ xs) (pt y ++ ys) := by simp [sbF, h]
theorem sbF_ne0 {jd : Tm → Tm → Int} {pt : Tm → List Tm} {n : Nat} {x y : Tm} {xs ys : List Tm} (h : jd x y ≠ 0) : sbF jd pt (n + 1) (x :: xs) (y :: ys) = jd x y := by simp [sbF, h]
theorem cmp1_nil_cons (a t : Tm) : tmNil.cmp1 (consT a t) = -1 := by
  unfold Tm.cmp1 compareR consT tmNil
  simp [Tm.kind, rankS, sg]
theorem cmp1_cons_nil (a t : Tm) : (consT a t).cmp1 tmNil = 1 := by
  unfold Tm.cmp1 compareR consT tmNil
  simp [Tm.kind, rankS, sg]
theorem cmp1_cons_cons (a t b u : Tm) : (consT a t).cmp1 (consT b u) = 0 := by
  unfold Tm.cmp1 compareR consT
  simp [Tm.kind, sg_self]
theorem consT_cparts (h t : Tm) : (consT h t).cparts = [h, t] := by simp [consT, Tm.cparts, Tm.kind, Tm.kids]
theorem sbF_list : ∀ (n : Nat) (A B : List Tm), (∀ t ∈ A, isI t) → (∀ t ∈ B, isI t) → 2 * A.length + 1 ≤ n → sbF Tm.cmp1 Tm.cparts n [listT A tmNil] [listT B tmNil] = lexL (A.map tval) (B.map tval) := by
  intro n A
  induction A generalizing n with
  | nil =>
    intro B _ hb hn
    obtain ⟨m, rfl⟩ : ∃ m, n = m + 1 := ⟨n - 1, by simp at hn; omega⟩
    cases B with
    | nil =>
      show sbF Tm.cmp1 Tm.cparts (m + 1) [tmNil] [tmNil] = 0
      exact sbF_refl cmp1_self _ _
    | cons b B =>
      show sbF Tm.cmp1 Tm.cparts (m + 1) [tmNil] [consT b (listT B tmNil)] = -1
      rw [sbF_ne0 (by rw [cmp1_nil_cons]; decide), cmp1_nil_cons]
  | cons a A ih =>
    intro B ha hb hn
    obtain ⟨m, rfl⟩ : ∃ m, n = m + 1 + 1 := ⟨n - 2, by simp at hn; omega⟩
    cases B with
    | nil =>
      show sbF Tm.cmp1 Tm.cparts (m + 1 + 1) [consT a (listT A tmNil)] [tmNil] = 1
      rw [sbF_ne0 (by rw [cmp1_cons_nil]; decide), cmp1_cons_nil]
    | cons b B =>
      show sbF Tm.cmp1 Tm.cparts (m + 1 + 1) [consT a (listT A tmNil)] [consT b (listT B tmNil)] = lexL (tval a :: A.map tval) (tval b :: B.map tval)
      rw [sbF_eq0 (cmp1_cons_cons _ _ _ _), consT_cparts, consT_cparts, List.append_nil, List.append_nil]
      have h1 := isI_cmp1 (ha a (by simp)) (hb b (by simp))
      by_cases h0 : sg (tval a) (tval b) = 0
      · rw [sbF_eq0 (h1.trans h0), isI_parts (ha a (by simp)), isI_parts (hb b (by simp)), List.nil_append, List.nil_append, ih m B (fun t ht => ha t (List.mem_cons_of_mem _ ht)) (fun t ht => hb t (List.mem_cons_of_mem _ ht)) (by simp at hn; omega)]
        simp [lexL, h0]
      · rw [sbF_ne0 (by rw [h1]; exact h0), h1]
        simp [lexL, h0]
theorem list_cmp {A B : List Tm} (ha : ∀ t ∈ A, isI t) (hb : ∀ t ∈ B, isI t) : (listT A tmNil).cmp (listT B tmNil) = lexL (A.map tval) (B.map tval) := by
  unfold Tm.cmp
  exact sbF_list _ A B ha hb (by rw [list_nodes A ha]; omega)
end Go.Proofs.YtfcdocgjmgpmkaaDoor
