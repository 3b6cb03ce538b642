
/-
  Nodes and words of a list by its items.
-/
import Derived.Test.YtfcdocgjmgpmkaaDoorTermLight
import Derived.Test.YtfcdocgjmgpmkaaDoorTermList
import Derived.Test.YtfcdocgjmgpmkaaDoorZTermI
namespace Go.Proofs.YtfcdocgjmgpmkaaDoor
open Go.RowKit
set_option linter.unusedVariables false
set_option linter.unusedSimpArgs false

theorem ownW_light {t : Tm} (h : t.light) : ownW t ≤ 100 + (t.kids.length : Int) ∧ 0 ≤ ownW t := by
  obtain ⟨h1, h2, -⟩ := (light_eq t).1 h
  unfold ownW
  repeat' split
  all_goals (constructor <;> omega)
theorem light_kids {t : Tm} (h : t.light) : lightL t.kids := ((light_eq t).1 h).2.2
theorem words_eq (t : Tm) : t.words = ownW t + sumL ownW t.kids := Tm.sum_eq _ _
theorem wordsL_li : ∀ (l : List Tm), (∀ t, t ∈ l → t.light → 0 ≤ t.words ∧ t.words ≤ 101 * (t.nodes : Int) - 1) → lightL l → 0 ≤ sumL ownW l ∧ sumL ownW l ≤ 101 * (nodesL l : Int) - (l.length : Int)
  | [], _, _ => by simp [sumL, nodesL]
  | t :: r, ih, h => by
    simp only [lightL] at h
    have h1 := ih t (by simp) h.1
    have h2 := wordsL_li r (fun x hx => ih x (by simp [hx])) h.2
    have e : Tm.sum ownW t = t.words := rfl
    simp only [sumL, nodesL, List.length_cons]
    omega
theorem words_light : ∀ (t : Tm), t.light → 0 ≤ t.words ∧ t.words ≤ 101 * (t.nodes : Int) - 1 :=
  Tm.ind (fun k n L S N K ih h => by
    have h1 := ownW_light h
    have h2 := wordsL_li K ih (light_kids h)
    have e1 := words_eq (.mk k n L S N K)
    have e2 := Tm.nodes_eq (.mk k n L S N K)
    simp only at h1 e1 e2
    omega)
theorem wordsL_light (l : List Tm) (h : lightL l) : 0 ≤ sumL ownW l ∧ sumL ownW l ≤ 101 * (nodesL l : Int) - (l.length : Int) := wordsL_li l (fun t _ => words_light t) h
/-- What the law's first loop sums up. -/
def sumN (l : List Tm) : Int := (nodesL l : Int) + (l.length : Int)
def sumW (l : List Tm) : Int := sumL ownW l + 2 * (l.length : Int)
theorem list_nodesK : ∀ (K : List Tm) (tl : Tm), ((listT K tl).nodes : Int) = sumN K + (tl.nodes : Int)
  | [], tl => by simp [listT, sumN, nodesL]
  | x :: K, tl => by
    have h := list_nodesK K tl
    have e : (listT (x :: K) tl).nodes = x.nodes + ((listT K tl).nodes + 0) + 1 := by
      show (consT x (listT K tl)).nodes = _
      simp [consT, Tm.nodes_mk, nodesL]
    rw [e]
    simp only [sumN, nodesL, List.length_cons] at h ⊢
    omega
theorem list_wordsK : ∀ (K : List Tm) (tl : Tm), (listT K tl).words = sumW K + tl.words
  | [], tl => by simp [listT, sumW, sumL]
  | x :: K, tl => by
    have h := list_wordsK K tl
    have e : (listT (x :: K) tl).words = 2 + (x.words + ((listT K tl).words + 0)) := by
      show (consT x (listT K tl)).words = _
      rw [words_eq]
      show ownW (consT x (listT K tl)) + (Tm.sum ownW x + (Tm.sum ownW (listT K tl) + 0)) = _
      have : ownW (consT x (listT K tl)) = 2 := by simp [ownW, consT, Tm.kind]
      rw [this]
      rfl
    rw [e, h]
    simp only [sumW, sumL, List.length_cons]
    have e2 : Tm.sum ownW x = x.words := rfl
    omega
theorem sumN_take (K : List Tm) (i : Nat) (hi : i < K.length) : sumN (K.take (i + 1)) = sumN (K.take i) + 1 + (K[i].nodes : Int) := by
  rw [List.take_succ_eq_append_getElem hi]
  simp only [sumN, nodesL_app, nodesL, List.length_append, List.length_cons, List.length_nil]
  omega
theorem sumW_take (K : List Tm) (i : Nat) (hi : i < K.length) : sumW (K.take (i + 1)) = sumW (K.take i) + 2 + K[i].words := by
  rw [List.take_succ_eq_append_getElem hi]
  simp only [sumW, sumL_app, sumL, List.length_append, List.length_cons, List.length_nil]
  have e2 : Tm.sum ownW K[i] = K[i].words := rfl
  omega
end Go.Proofs.YtfcdocgjmgpmkaaDoor
