
/-
  The order of terms that may be is an order.
-/
import Derived.Test.YtfcdocgjmgpmkaaDoorTermCmpS
import Derived.Test.YtfcdocgjmgpmkaaDoorTermRWalk
import Derived.Test.YtfcdocgjmgpmkaaDoorTermTupM
namespace Go.Proofs.YtfcdocgjmgpmkaaDoor
open Go.RowKit
set_option linter.unusedVariables false
set_option linter.unusedSimpArgs false

theorem sg_t {x y z : Int} (h1 : sg x y ≤ 0) (h2 : sg y z ≤ 0) : sg x z ≤ 0 ∧ (sg x z = 0 ↔ sg x y = 0 ∧ sg y z = 0) := by
  unfold sg at *
  split at h1 <;> split at h2 <;> (repeat' split at h1) <;> (repeat' split at h2) <;> (repeat' split) <;> (try omega) <;> (constructor <;> (try omega) <;> (constructor <;> (try omega)))
theorem sg_anti (x y : Int) : sg y x = - sg x y := by
  unfold sg
  split <;> split <;> (try omega) <;> (split <;> omega)
theorem lexL_anti : ∀ (x y : List Int), lexL y x = - lexL x y
  | [], [] => rfl
  | [], _ :: _ => rfl
  | _ :: _, [] => rfl
  | a :: x, b :: y => by
    simp only [lexL]
    have := sg_anti a b
    by_cases h : sg a b = 0
    · rw [if_pos h, if_pos (by omega), lexL_anti x y]
    · rw [if_neg h, if_neg (by omega), this]
theorem lexL_t : ∀ (x y z : List Int), lexL x y ≤ 0 → lexL y z ≤ 0 → lexL x z ≤ 0 ∧ (lexL x z = 0 ↔ lexL x y = 0 ∧ lexL y z = 0)
  | [], [], [], _, _ => by simp [lexL]
  | [], [], _ :: _, _, _ => by simp [lexL]
  | [], _ :: _, [], _, h => by simp [lexL] at h
  | [], _ :: _, _ :: _, _, _ => by simp [lexL]
  | _ :: _, [], [], h, _ => by simp [lexL] at h
  | _ :: _, [], _ :: _, h, _ => by simp [lexL] at h
  | _ :: _, _ :: _, [], _, h => by simp [lexL] at h
  | a :: x, b :: y, c :: z, h1, h2 => by
    have ih := lexL_t x y z
    simp only [lexL] at h1 h2 ⊢
    by_cases e1 : sg a b = 0
    · by_cases e2 : sg b c = 0
      · have e3 : sg a c = 0 := (sg_t (by omega) (by omega)).2.2 ⟨e1, e2⟩
        rw [if_pos e1] at h1 ⊢
        rw [if_pos e2] at h2 ⊢
        rw [if_pos e3]
        exact ih h1 h2
      · rw [if_neg e2] at h2 ⊢
        have t := sg_t (x := a) (y := b) (z := c) (by omega) h2
        have e3 : ¬ sg a c = 0 := fun e => e2 (t.2.1 e).2
        rw [if_neg e3]
        exact ⟨t.1, ⟨fun h => absurd h e3, fun h => absurd h.2 e2⟩⟩
    · rw [if_neg e1] at h1 ⊢
      have h3 : sg b c ≤ 0 := by
        by_cases e2 : sg b c = 0
        · omega
        · rw [if_neg e2] at h2; exact h2
      have t := sg_t (x := a) (y := b) (z := c) h1 h3
      have e3 : ¬ sg a c = 0 := fun e => e1 (t.2.1 e).1
      rw [if_neg e3]
      exact ⟨t.1, ⟨fun h => absurd h e3, fun h => absurd h.1 e1⟩⟩
theorem lexL_eq0 : ∀ (x y : List Int), lexL x y = 0 ↔ x = y
  | [], [] => by simp [lexL]
  | [], _ :: _ => by simp [lexL]
  | _ :: _, [] => by simp [lexL]
  | a :: x, b :: y => by
    simp only [lexL, List.cons.injEq]
    by_cases h : sg a b = 0
    · rw [if_pos h, lexL_eq0 x y]
      have := sg_zero h
      simp [this]
    · rw [if_neg h]
      constructor
      · intro e; exact absurd e h
      · rintro ⟨rfl, -⟩; exact absurd (sg_self a) h

def bytesI (s : ByteArray) : List Int := s.data.toList.map (fun b => (b.toNat : Int))
theorem bytes_lex : ∀ (x y : List UInt8), Lib.compareBytes x y = lexL (x.map (fun b => (b.toNat : Int))) (y.map (fun b => (b.toNat : Int)))
  | [], [] => by simp [Lib.compareBytes, lexL]
  | [], _ :: _ => by simp [Lib.compareBytes, lexL]
  | _ :: _, [] => by simp [Lib.compareBytes, lexL]
  | a :: x, b :: y => by
    simp only [Lib.compareBytes, List.map_cons, lexL]
    rw [bytes_lex x y]
    have e1 : a < b ↔ (a.toNat : Int) < (b.toNat : Int) := by rw [UInt8.lt_iff_toNat_lt]; omega
    have e2 : b < a ↔ (b.toNat : Int) < (a.toNat : Int) := by rw [UInt8.lt_iff_toNat_lt]; omega
    by_cases h1 : a < b
    · rw [if_pos h1, sg_lt (e1.1 h1), if_neg (by decide)]
    · rw [if_neg h1]
      by_cases h2 : b < a
      · rw [if_pos h2, sg_gt (e2.1 h2), if_neg (by decide)]
      · rw [if_neg h2, if_pos (sg_eq (by have := mt e1.2 h1; have := mt e2.2 h2; omega))]
/-- What a term is ordered by, its parts aside. -/
def pay (t : Tm) : List Int := if t.kind = 1 then [val t.neg t.limbs] else if t.kind = 2 ∨ t.kind = 6 then bytesI t.str else if t.kind = 5 then [(t.kids.length : Int)] else []
def key (t : Tm) : List Int := rankS t.kind :: pay t
theorem fOk_kind {k : Int} {n : Bool} {L : List Int} {c : Nat} (h : fOk k n L c) : k = 1 ∨ k = 2 ∨ k = 3 ∨ k = 4 ∨ k = 5 ∨ k = 6 := by
  rcases h with h | h | h | h | h | h <;> omega
def fOkT (t : Tm) : Prop := fOk t.kind t.neg t.limbs t.kids.length
theorem rank_inj {a b : Int} (ha : a = 1 ∨ a = 2 ∨ a = 3 ∨ a = 4 ∨ a = 5 ∨ a = 6) (hb : b = 1 ∨ b = 2 ∨ b = 3 ∨ b = 4 ∨ b = 5 ∨ b = 6) (h : rankS a = rankS b) : a = b := by
  rcases ha with rfl | rfl | rfl | rfl | rfl | rfl <;> rcases hb with rfl | rfl | rfl | rfl | rfl | rfl <;> first | rfl | (simp [rankS] at h)
theorem cmp1_key {a b : Tm} (ha : fOkT a) (hb : fOkT b) : a.cmp1 b = lexL (key a) (key b) := by
  have ka := fOk_kind ha
  have kb := fOk_kind hb
  unfold Tm.cmp1 compareR key
  simp only [lexL]
  by_cases h : sg (rankS a.kind) (rankS b.kind) = 0
  · rw [if_neg (by simpa using h), if_pos h]
    have hk : a.kind = b.kind := rank_inj ka kb (sg_zero h)
    unfold pay
    rw [← hk]
    rcases ka with h1 | h1 | h1 | h1 | h1 | h1
    · simp [h1, lexL]
    · simp [h1, bytes_lex, bytesI]
    · simp [h1, lexL]
    · simp [h1, lexL]
    · simp [h1, lexL]
    · simp [h1, bytes_lex, bytesI]
  · rw [if_pos (by simpa using h), if_neg h]
theorem cmp1_anti {a b : Tm} (ha : fOkT a) (hb : fOkT b) : b.cmp1 a = - a.cmp1 b := by rw [cmp1_key ha hb, cmp1_key hb ha, lexL_anti]
theorem cmp1_t {a b c : Tm} (ha : fOkT a) (hb : fOkT b) (hc : fOkT c) (h1 : a.cmp1 b ≤ 0) (h2 : b.cmp1 c ≤ 0) : a.cmp1 c ≤ 0 ∧ (a.cmp1 c = 0 ↔ a.cmp1 b = 0 ∧ b.cmp1 c = 0) := by
  rw [cmp1_key ha hb] at h1 ⊢
  rw [cmp1_key hb hc] at h2 ⊢
  rw [cmp1_key ha hc]
  exact lexL_t _ _ _ h1 h2

/-- All limbs fit. -/
def Tm.lOk : Tm → Prop := Tm.fold (fun t Ks => Ok t.limbs ∧ andL Ks)
def lOkL : List Tm → Prop
  | [] => True
  | t :: r => Tm.lOk t ∧ lOkL r
theorem lOkL_and : ∀ l : List Tm, andL (l.map Tm.lOk) = lOkL l
  | [] => rfl
  | t :: r => by simp only [List.map_cons, andL, lOkL, lOkL_and r]
theorem Tm.lOk_mk (k : Int) (n : Bool) (L : List Int) (S : ByteArray) (N : Int) (K : List Tm) : Tm.lOk (.mk k n L S N K) = (Ok L ∧ lOkL K) := by
  rw [← lOkL_and]
  unfold Tm.lOk
  rw [Tm.fold_mk]
theorem lOk_eq (t : Tm) : t.lOk ↔ Ok t.limbs ∧ lOkL t.kids := by cases t; simp [Tm.lOk_mk, Tm.limbs, Tm.kids]
theorem lOkL_of : ∀ {l : List Tm}, (∀ (i : Nat) (h : i < l.length), (l[i]).lOk) → lOkL l
  | [], _ => by simp [lOkL]
  | x :: l, h => by
    simp only [lOkL]
    exact ⟨h 0 (by simp), lOkL_of (fun i hi => by have := h (i + 1) (by simp; omega); simpa using this)⟩
theorem IsT.lOk {w : World} {t : Tm} {v : Value} (h : IsT w t v) : t.lOk := by
  refine IsT.ind (P := fun t _ => t.lOk) ?_ t v h
  intro k neg L S N K sl a cap el hk hN hS hL hh hr ih
  rw [Tm.lOk_mk]
  exact ⟨hL.ok, lOkL_of ih⟩
/-- What is asked of a term. -/
def tOk (t : Tm) : Prop := t.rOk ∧ t.lOk
theorem tOk_f {t : Tm} (h : tOk t) : fOkT t := ((rOk_eq t).1 h.1).1
theorem rOkL_mem : ∀ {l : List Tm}, rOkL l → ∀ k ∈ l, k.rOk
  | [], _, k, h => by simp at h
  | t :: r, h, k, hk => by
    simp only [rOkL] at h
    rcases List.mem_cons.1 hk with rfl | h1
    · exact h.1
    · exact rOkL_mem h.2 k h1
theorem lOkL_mem : ∀ {l : List Tm}, lOkL l → ∀ k ∈ l, k.lOk
  | [], _, k, h => by simp at h
  | t :: r, h, k, hk => by
    simp only [lOkL] at h
    rcases List.mem_cons.1 hk with rfl | h1
    · exact h.1
    · exact lOkL_mem h.2 k h1
theorem tOk_kids {t : Tm} (h : tOk t) : ∀ k ∈ t.kids, tOk k := fun k hk => ⟨rOkL_mem ((rOk_eq t).1 h.1).2 k hk, lOkL_mem ((lOk_eq t).1 h.2).2 k hk⟩
theorem tOk_cparts {t : Tm} (h : tOk t) : t.cparts = t.parts := by
  unfold Tm.cparts
  split
  · rename_i h4
    have : t.kids.length = 2 := by
      rcases tOk_f h with g | g | g | g | g | g <;> omega
    unfold Tm.parts
    rw [if_pos (by omega), List.take_of_length_le (by omega)]
  · rfl
theorem tOk_parts {t : Tm} (h : tOk t) : ∀ k ∈ t.cparts, tOk k := by
  rw [tOk_cparts h]
  intro k hk
  unfold Tm.parts at hk
  split at hk
  · exact tOk_kids h k hk
  · simp at hk
theorem rOkL_co : ∀ (l : List Tm), (∀ t, t ∈ l → t.rOk → t.cons2) → rOkL l → cons2L l
  | [], _, _ => by simp [cons2L]
  | t :: r, ih, h => by
    simp only [rOkL] at h
    simp only [cons2L]
    exact ⟨ih t (by simp) h.1, rOkL_co r (fun x hx => ih x (by simp [hx])) h.2⟩
theorem rOk_cons2 : ∀ (t : Tm), t.rOk → t.cons2 :=
  Tm.ind (fun k n L S N K ih h => by
    rw [Tm.rOk_mk] at h
    rw [Tm.cons2_mk]
    refine ⟨fun h4 => ?_, rOkL_co K ih h.2⟩
    rcases h.1 with g | g | g | g | g | g <;> omega)
theorem rOkL_cons2 (l : List Tm) (h : rOkL l) : cons2L l := rOkL_co l (fun t _ => rOk_cons2 t) h
theorem all_parts {x : Tm} {xs : List Tm} (h : ∀ t ∈ x :: xs, tOk t) : ∀ t ∈ x.cparts ++ xs, tOk t := by
  intro t ht
  rcases List.mem_append.1 ht with h1 | h1
  · exact tOk_parts (h x (by simp)) t h1
  · exact h t (List.mem_cons_of_mem _ h1)
theorem sbF_anti : ∀ (n : Nat) (xs ys : List Tm), (∀ t ∈ xs, tOk t) → (∀ t ∈ ys, tOk t) → sbF Tm.cmp1 Tm.cparts n ys xs = - sbF Tm.cmp1 Tm.cparts n xs ys
  | 0, _, _, _, _ => rfl
  | n + 1, [], [], _, _ => rfl
  | n + 1, [], _ :: _, _, _ => rfl
  | n + 1, _ :: _, [], _, _ => rfl
  | n + 1, x :: xs, y :: ys, hx, hy => by
    have e := cmp1_anti (tOk_f (hx x (by simp))) (tOk_f (hy y (by simp)))
    by_cases h : x.cmp1 y = 0
    · rw [sbF_eq0 h, sbF_eq0 (by omega), sbF_anti n _ _ (all_parts hx) (all_parts hy)]
    · rw [sbF_ne0 h, sbF_ne0 (by omega), e]
theorem sbF_t : ∀ (n : Nat) (xs ys zs : List Tm), (∀ t ∈ xs, tOk t) → (∀ t ∈ ys, tOk t) → (∀ t ∈ zs, tOk t) → xs.length = ys.length → ys.length = zs.length →
    sbF Tm.cmp1 Tm.cparts n xs ys ≤ 0 → sbF Tm.cmp1 Tm.cparts n ys zs ≤ 0 → sbF Tm.cmp1 Tm.cparts n xs zs ≤ 0
  | 0, _, _, _, _, _, _, _, _, _, _ => by simp [sbF]
  | n + 1, [], _, _, _, _, _, _, _, _, _ => by simp [sbF]
  | n + 1, _ :: _, [], _, _, _, _, h, _, _, _ => by simp at h
  | n + 1, _ :: _, _ :: _, [], _, _, _, _, h, _, _ => by simp at h
  | n + 1, x :: xs, y :: ys, z :: zs, hx, hy, hz, l1, l2, h1, h2 => by
    have fx := tOk_f (hx x (by simp))
    have fy := tOk_f (hy y (by simp))
    have fz := tOk_f (hz z (by simp))
    have c2 : ∀ t, tOk t → t.cons2 := fun t h => rOk_cons2 t h.1
    by_cases e1 : x.cmp1 y = 0
    · by_cases e2 : y.cmp1 z = 0
      · have e3 := (cmp1_t fx fy fz (by omega) (by omega)).2.2 ⟨e1, e2⟩
        rw [sbF_eq0 e1] at h1
        rw [sbF_eq0 e2] at h2
        rw [sbF_eq0 e3]
        have p1 := cmp1_len (c2 x (hx x (by simp))) (c2 y (hy y (by simp))) e1
        have p2 := cmp1_len (c2 y (hy y (by simp))) (c2 z (hz z (by simp))) e2
        exact sbF_t n _ _ _ (all_parts hx) (all_parts hy) (all_parts hz) (by simp at l1 ⊢; omega) (by simp at l2 ⊢; omega) h1 h2
      · rw [sbF_ne0 e2] at h2
        have t := cmp1_t fx fy fz (by omega) h2
        rw [sbF_ne0 (fun e => e2 (t.2.1 e).2)]
        exact t.1
    · rw [sbF_ne0 e1] at h1
      have h3 : y.cmp1 z ≤ 0 := by
        by_cases e2 : y.cmp1 z = 0
        · omega
        · rw [sbF_ne0 e2] at h2; exact h2
      have t := cmp1_t fx fy fz h1 h3
      rw [sbF_ne0 (fun e => e1 (t.2.1 e).1)]
      exact t.1
theorem val_inj {n m : Bool} {a b : List Int} (ga : Good n a) (gb : Good m b) (oa : Ok a) (ob : Ok b) (h : val n a = val m b) : n = m ∧ a = b := by
  rw [val, if_pos ga, val, if_pos gb] at h
  have pa := Z_pos ga oa
  have pb := Z_pos gb ob
  have hnm : n = m := by
    cases n <;> cases m <;> first | rfl | (have := pa.1; have := pa.2; have := pb.1; have := pb.2; simp at *; omega)
  subst hnm
  refine ⟨rfl, Nm_inj oa ob ga.2.1 gb.2.1 ?_⟩
  unfold Z at h
  split at h <;> omega
theorem bytesI_inj {a b : ByteArray} (h : bytesI a = bytesI b) : a.toList = b.toList := by
  unfold bytesI at h
  have : a.data.toList = b.data.toList := by
    refine List.map_inj_right (f := fun b : UInt8 => (b.toNat : Int)) ?_ |>.1 h
    intro x y e
    have e2 : (x.toNat : Int) = (y.toNat : Int) := e
    exact UInt8.toNat_inj.1 (by omega)
  rw [Lib.toList_data, Lib.toList_data, this]
theorem alike_iff {a b : Tm} (ha : tOk a) (hb : tOk b) : a.cmp1 b = 0 ↔ unl a b = 0 := by
  have fa := tOk_f ha
  have fb := tOk_f hb
  have ka := fOk_kind fa
  have kb := fOk_kind fb
  have la := ((lOk_eq a).1 ha.2).1
  have lb := ((lOk_eq b).1 hb.2).1
  rw [cmp1_key fa fb, lexL_eq0]
  constructor
  · intro h
    unfold key at h
    simp only [List.cons.injEq] at h
    have hk := rank_inj ka kb h.1
    have hp := h.2
    unfold unl
    rw [if_pos]
    unfold Tm.alike alikeR
    unfold pay at hp
    rw [← hk] at hp
    simp only [hk, decide_true, Bool.true_and]
    rw [← hk]
    rcases ka with h1 | h1 | h1 | h1 | h1 | h1
    · simp [h1] at hp ⊢
      have ga : Good a.neg a.limbs := by rcases fa with g | g | g | g | g | g <;> first | exact g.2.1 | (exfalso; omega)
      have gb : Good b.neg b.limbs := by rcases fb with g | g | g | g | g | g <;> first | exact g.2.1 | (exfalso; omega)
      exact val_inj ga gb la lb hp
    · simp [h1] at hp ⊢
      exact bytesI_inj hp
    · simp [h1]
    · have ca : a.kids.length = 2 := by rcases fa with g | g | g | g | g | g <;> omega
      have cb : b.kids.length = 2 := by rcases fb with g | g | g | g | g | g <;> omega
      simp [h1, ca, cb]
    · simp [h1] at hp ⊢
      omega
    · simp [h1] at hp ⊢
      exact bytesI_inj hp
  · intro h
    have h := unl_zero h
    unfold Tm.alike at h
    simp only [Bool.and_eq_true, decide_eq_true_eq] at h
    obtain ⟨hk, h⟩ := h
    unfold key pay
    rw [← hk]
    unfold alikeR at h
    rcases ka with h1 | h1 | h1 | h1 | h1 | h1
    · simp [h1] at h ⊢
      rw [h.1, h.2]
    · simp [h1] at h ⊢
      unfold bytesI
      rw [← Lib.toList_data, ← Lib.toList_data, h]
    · simp [h1]
    · simp [h1]
    · simp [h1] at h ⊢
      omega
    · simp [h1] at h ⊢
      unfold bytesI
      rw [← Lib.toList_data, ← Lib.toList_data, h]
theorem sbF_zero : ∀ (n : Nat) (xs ys : List Tm), (∀ t ∈ xs, tOk t) → (∀ t ∈ ys, tOk t) → (sbF Tm.cmp1 Tm.cparts n xs ys = 0 ↔ sbF unl Tm.parts n xs ys = 0)
  | 0, _, _, _, _ => by simp [sbF]
  | n + 1, [], _, _, _ => by simp [sbF]
  | n + 1, _ :: _, [], _, _ => by simp [sbF]
  | n + 1, x :: xs, y :: ys, hx, hy => by
    have e := alike_iff (hx x (by simp)) (hy y (by simp))
    by_cases h : x.cmp1 y = 0
    · rw [sbF_eq0 h, sbF_eq0 (e.1 h), ← tOk_cparts (hx x (by simp)), ← tOk_cparts (hy y (by simp))]
      exact sbF_zero n _ _ (all_parts hx) (all_parts hy)
    · rw [sbF_ne0 h, sbF_ne0 (fun g => h (e.2 g))]
      exact e

theorem cmp_fuel (a b : Tm) (n : Nat) (h : a.nodes ≤ n) : a.cmp b = sbF Tm.cmp1 Tm.cparts n [a] [b] := sbF_same cparts_nodes _ _ _ _ (by simp [nodesL]) (by simp [nodesL]; exact h)
theorem one {a : Tm} (h : tOk a) : ∀ t ∈ [a], tOk t := fun t ht => by simp at ht; rw [ht]; exact h
theorem cmp_anti {a b : Tm} (ha : tOk a) (hb : tOk b) : b.cmp a = - a.cmp b := by
  rw [cmp_fuel a b (a.nodes + b.nodes) (by omega), cmp_fuel b a (a.nodes + b.nodes) (by omega)]
  exact sbF_anti _ _ _ (one ha) (one hb)
theorem cmp_same {a b : Tm} (ha : tOk a) (hb : tOk b) : (a.cmp b = 0) ↔ a.same b = true := by
  unfold Tm.cmp Tm.same
  rw [decide_eq_true_eq]
  exact sbF_zero _ _ _ (one ha) (one hb)
theorem cmp_t {a b c : Tm} (ha : tOk a) (hb : tOk b) (hc : tOk c) (h1 : a.cmp b ≤ 0) (h2 : b.cmp c ≤ 0) : a.cmp c ≤ 0 := by
  rw [cmp_fuel a b (a.nodes + b.nodes) (by omega)] at h1
  rw [cmp_fuel b c (a.nodes + b.nodes) (by omega)] at h2
  rw [cmp_fuel a c (a.nodes + b.nodes) (by omega)]
  exact sbF_t _ _ _ _ (one ha) (one hb) (one hc) rfl rfl h1 h2
end Go.Proofs.YtfcdocgjmgpmkaaDoor
