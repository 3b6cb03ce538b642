import Derived.Test.YtfcdocgjmgpmkaaDoorTermFits
import Derived.Test.YtfcdocgjmgpmkaaDoorTermTotal
import Derived.Test.YtfcdocgjmgpmkaaDoorZNumA

/-
  term.Check.
-/
namespace Go.Proofs.YtfcdocgjmgpmkaaDoor
open Go.RowKit
set_option linter.unusedVariables false
set_option linter.unusedSimpArgs false

/-- A term that may be. -/
def Tm.ok (t : Tm) : Bool := (chk t 1 2000).isSome

set_option maxHeartbeats 1000000 in
theorem tcheck_any (t : Tm) (v : Value) (w : World) (h : IsT w t v) : Calls Tryd.prog 18 #[v] w fun e w' => e = .returned (.bool t.ok) ∧ Below w.heap.size w w' := by
  have h0 := h
  obtain ⟨sl, sk, rfl, hl, hk, -, -, -⟩ := h.open
  obtain ⟨pl, cl, rfl⟩ := hl.shape
  obtain ⟨pk, ck, rfl, -⟩ := hk.shape
  simp only [tmV] at *
  have hB1 := (Below.refl w.heap.size w).alloc (Nat.le_refl _) (.cells #[.int .i64 t.kind, .bool t.neg, .slice pl t.limbs.length cl, .string t.str, .int .i64 t.num, .slice pk t.kids.length ck] 27)
  have hL : Lft ((w.alloc (.cells #[.int .i64 t.kind, .bool t.neg, .slice pl t.limbs.length cl, .string t.str, .int .i64 t.num, .slice pk t.kids.length ck] 27)).alloc (.cells #[.int .i64 2000] 3)) (w.heap.size + 1) 2000 := by
    have := heap_alloc_new (w.alloc (.cells #[.int .i64 t.kind, .bool t.neg, .slice pl t.limbs.length cl, .string t.str, .int .i64 t.num, .slice pk t.kids.length ck] 27)) (.cells #[.int .i64 2000] 3)
    rw [World.size_alloc] at this
    exact this
  have hB2 := hB1.alloc hB1.size (.cells #[.int .i64 2000] 3)
  go_enter Tryd.func18, Tryd.ntmps18
  go_wp2_with fail
  refine (fits_any t.nodes t _ 1 2000 (w.heap.size + 1) w _ (Nat.le_refl _) h0 hB2 (by omega) hL (by omega) (by omega)).mono ?_
  rintro e w1 ⟨rfl, hG, -⟩
  have hB3 := hB2.trans (hG.below (by omega) hB2.size)
  clear hB1 hB2 hL hG
  go_wp2_with fail
  go_ret
  exact ⟨rfl, hB3⟩
end Go.Proofs.YtfcdocgjmgpmkaaDoor


/-
  term.Nodes, Small, ownWords, Words.
-/
namespace Go.Proofs.YtfcdocgjmgpmkaaDoor
open Go.RowKit
set_option linter.unusedVariables false
set_option linter.unusedSimpArgs false

theorem sumL_on : ∀ l : List Tm, (∀ t, t ∈ l → t.sum (fun _ => 1) = (t.nodes : Int)) → sumL (fun _ => 1) l = (nodesL l : Int)
  | [], _ => by simp [sumL, nodesL]
  | t :: r, h => by
    have h1 := h t (by simp)
    have h2 := sumL_on r (fun x hx => h x (by simp [hx]))
    simp only [sumL, nodesL]; omega
theorem Tm.sum_one : ∀ t : Tm, t.sum (fun _ => 1) = (t.nodes : Int) :=
  Tm.ind (fun k n L S N K ih => by
    have := sumL_on K ih
    rw [Tm.sum_mk, Tm.nodes_mk]; omega)
theorem sumL_one (l : List Tm) : sumL (fun _ => 1) l = (nodesL l : Int) := sumL_on l (fun t _ => Tm.sum_one t)

set_option maxHeartbeats 1000000 in
theorem nodes_any (t : Tm) (v : Value) (w : World) (h : IsT w t v) (hn : t.nodes ≤ 1000000) : Calls Tryd.prog 13 #[v] w fun e w' => e = .returned (.int .i64 (t.nodes : Int)) ∧ Below w.heap.size w w' := by
  have h0 := h
  obtain ⟨sl, sk, rfl, hl, hk, -, -, -⟩ := h.open
  obtain ⟨pl, cl, rfl⟩ := hl.shape
  obtain ⟨pk, ck, rfl, -⟩ := hk.shape
  simp only [tmV] at *
  have hb1 := (Below.refl w.heap.size w).alloc (Nat.le_refl _) (.cells #[.int .i64 t.kind, .bool t.neg, .slice pl t.limbs.length cl, .string t.str, .int .i64 t.num, .slice pk t.kids.length ck] 27)
  go_enter Tryd.func13, Tryd.ntmps13
  go_wp2_with fail
  refine (totalN_any (fun _ => 1) (fun _ => by decide) (fun t v w h _ => one_any t v w h) t _ _ (h0.under hb1) (by rw [Tm.sum_one]; omega) hn).mono ?_
  rw [Tm.sum_one]
  rintro e w1 ⟨rfl, b1⟩
  go_wp2_with fail
  go_ret
  exact ⟨rfl, hb1.trans (b1.mono hb1.size)⟩

/-- A number that has room in a word. -/
def smallB (x : Int) : Bool := decide (-576460752303423488 ≤ x) && decide (x < 576460752303423488)

set_option maxHeartbeats 1000000 in
theorem small_any (v : Value) (x : Int) (w : World) (h : Nx w v x) : Calls Tryd.prog 46 #[v] w fun e w' => e = .returned (.bool (smallB x)) ∧ Below w.heap.size w w' := by
  have h0 := h
  obtain ⟨neg, zs, ⟨s, rfl, hs⟩, hv⟩ := h
  obtain ⟨p, c, rfl⟩ := hs.shape
  have hb1 := (Below.refl w.heap.size w).alloc (Nat.le_refl _) (.cells #[.bool neg, .slice p zs.length c] 24)
  have h1 := h0.below hb1
  clear h0 hv hs
  go_enter Tryd.func46, Tryd.ntmps46
  go_wp2_with fail
  refine (int_any _ x _ h1).mono ?_
  rintro e w1 ⟨rfl, b1⟩
  have hbw := hb1.trans (b1.mono hb1.size)
  clear hb1 b1 h1
  by_cases hin : -9223372036854775808 ≤ x ∧ x ≤ 9223372036854775807
  · have hi : intS x = some x := by unfold intS; rw [if_pos hin]
    rw [hi]
    simp only [Option.getD_some, Option.isSome_some]
    clear hi
    by_cases h1 : -576460752303423488 ≤ x
    · by_cases h2 : x < 576460752303423488
      · have HS : Hid (smallB x = true) := by show smallB x = true; simp [smallB, h1, h2]
        go_wp2_with fail
        go_ret
        exact ⟨by rw [HS.out]; rfl, hbw⟩
      · have HS : Hid (smallB x = false) := by show smallB x = false; simp [smallB, h2]
        go_wp2_with fail
        go_ret
        exact ⟨by rw [HS.out]; rfl, hbw⟩
    · have HS : Hid (smallB x = false) := by show smallB x = false; simp [smallB, h1]
      go_wp2_with fail
      go_ret
      exact ⟨by rw [HS.out]; rfl, hbw⟩
  · have hi : intS x = none := by unfold intS; rw [if_neg hin]
    rw [hi]
    simp only [Option.getD_none, Option.isSome_none]
    have HS : Hid (smallB x = false) := by
      show smallB x = false
      by_cases h1 : -576460752303423488 ≤ x
      · have h2 : ¬ x < 576460752303423488 := by omega
        simp [smallB, h2]
      · simp [smallB, h1]
    clear hi hin
    go_wp2_with fail
    go_ret
    exact ⟨by rw [HS.out]; rfl, hbw⟩

/-- How many words a term takes without those of what it is made of. -/
def ownW (t : Tm) : Int :=
  if t.kind = 1 then (if smallB (val t.neg t.limbs) = true then 0 else 1 + (t.limbs.length : Int))
  else if t.kind = 4 then 2
  else if t.kind = 7 then 2 + (t.kids.length : Int)
  else if t.kind = 5 then 1 + (t.kids.length : Int)
  else if t.kind = 8 then 5 + ((t.str.size : Int) + 7) / 8
  else if t.kind = 6 then 2 + ((t.str.size : Int) + 7) / 8
  else 0
/-- The same, of a kind. -/
def ownWk (k : Int) (t : Tm) : Int :=
  if k = 1 then (if smallB (val t.neg t.limbs) = true then 0 else 1 + (t.limbs.length : Int))
  else if k = 4 then 2
  else if k = 7 then 2 + (t.kids.length : Int)
  else if k = 5 then 1 + (t.kids.length : Int)
  else if k = 8 then 5 + ((t.str.size : Int) + 7) / 8
  else if k = 6 then 2 + ((t.str.size : Int) + 7) / 8
  else 0
theorem ownW_nonneg (t : Tm) : 0 ≤ ownW t := by
  unfold ownW
  repeat' split
  all_goals omega

theorem kids_nodes : ∀ l : List Tm, l.length ≤ nodesL l
  | [] => by simp
  | t :: r => by
    have := kids_nodes r
    have := Tm.nodes_eq t
    simp only [nodesL, List.length_cons]; omega

set_option maxHeartbeats 4000000 in
theorem ownWords_any (t : Tm) (v : Value) (w : World) (h : IsT w t v) (hn : t.nodes ≤ 1000000) : Calls Tryd.prog 30 #[v] w fun e w' => e = .returned (.int .i64 (ownW t)) ∧ Below w.heap.size w w' := by
  have h0 := h
  obtain ⟨sl, sk, rfl, hl, hk, hki, -, hS⟩ := h.open
  obtain ⟨pl, cl, rfl⟩ := hl.shape
  obtain ⟨pk, ck, rfl, -⟩ := hk.shape
  have hkn := kids_nodes t.kids
  rw [Tm.nodes_eq] at hn
  have hkl : (t.kids.length : Int) ≤ 1000000 := by omega
  have hS0 : (0 : Int) ≤ t.str.size := by omega
  simp only [tmV] at *
  have hb1 := (Below.refl w.heap.size w).alloc (Nat.le_refl _) (.cells #[.int .i64 t.kind, .bool t.neg, .slice pl t.limbs.length cl, .string t.str, .int .i64 t.num, .slice pk t.kids.length ck] 27)
  obtain ⟨q, hq⟩ : ∃ q, ownW t = q := ⟨_, rfl⟩
  have HQ : Hid (ownW t = q) := hq
  rw [hq]
  clear hq hn hkn h0 h
  have HKD : Hid (∀ k, t.kind = k → ownW t = ownWk k t) := fun k e => by unfold ownW ownWk; rw [e]
  obtain ⟨kk, hkk⟩ : ∃ kk, t.kind = kk := ⟨_, rfl⟩
  have HK2 : Hid (q = ownWk kk t) := by show q = _; rw [← HQ.out]; exact HKD.out kk hkk
  rw [hkk] at hki hb1 ⊢
  clear hkk HKD HQ
  by_cases k1 : kk = 1
  · subst k1
    have qn : Nx (w.alloc (.cells #[.int .i64 1, .bool t.neg, .slice pl t.limbs.length cl, .string t.str, .int .i64 t.num, .slice pk t.kids.length ck] 27)) (.agg #[.bool t.neg, .slice pl t.limbs.length cl]) (val t.neg t.limbs) := ⟨t.neg, t.limbs, ⟨_, rfl, hl.below hb1⟩, rfl⟩
    have ub := Bt.new w 1 t.neg (.slice pl t.limbs.length cl) t.str t.num (.slice pk t.kids.length ck) ⟨_, _, _, rfl⟩ ⟨_, _, _, rfl⟩
    go_enter Tryd.func30, Tryd.ntmps30
    go_wp2_with fail
    refine (small_any _ _ _ qn).mono ?_
    rintro e w1 ⟨rfl, b1⟩
    replace ub := ub.under b1
    have hbw := hb1.trans (b1.mono hb1.size)
    obtain ⟨a0, a1, a2, a3, a4, a5⟩ := ub.cells
    have HZ : Hid (q = if smallB (val t.neg t.limbs) = true then 0 else 1 + (t.limbs.length : Int)) := by
      show q = _
      rw [HK2.out, ownWk, if_pos rfl]
    cases hsm : smallB (val t.neg t.limbs)
    · have hgood : t.limbs.length ≤ 12 := by
        have hv0 : val t.neg t.limbs ≠ 0 := fun e => by rw [e] at hsm; cases hsm
        unfold val at hv0
        by_cases hg : Good t.neg t.limbs
        · exact hg.1
        · rw [if_neg hg] at hv0; exact absurd rfl hv0
      have hgi : (t.limbs.length : Int) ≤ 12 := by omega
      have HZ2 : Hid (q = 1 + (t.limbs.length : Int)) := by show q = _; rw [HZ.out, hsm]; rfl
      clear hsm HZ HK2 hgood hki
      go_wp2_with fail
      go_ret
      exact ⟨by rw [HZ2.out]; rfl, hbw⟩
    · have HZ2 : Hid (q = 0) := by show q = _; rw [HZ.out, hsm]; rfl
      clear hsm HZ HK2 hki
      go_wp2_with fail
      go_ret
      exact ⟨by rw [HZ2.out]; rfl, hbw⟩
  · by_cases k4 : kk = 4
    · subst k4
      have HZ2 : Hid (q = 2) := by show q = _; rw [HK2.out, ownWk, if_neg k1, if_pos rfl]
      clear HK2
      go_enter Tryd.func30, Tryd.ntmps30
      go_wp2_with fail
      go_ret
      exact ⟨by rw [HZ2.out]; rfl, hb1⟩
    · by_cases k7 : kk = 7
      · subst k7
        have HZ2 : Hid (q = 1 + (1 + (t.kids.length : Int))) := by show q = _; rw [HK2.out, ownWk, if_neg k1, if_neg k4, if_pos rfl]; omega
        clear HK2
        go_enter Tryd.func30, Tryd.ntmps30
        go_wp2_with fail
        go_ret
        exact ⟨by rw [HZ2.out]; rfl, hb1⟩
      · by_cases k5 : kk = 5
        · subst k5
          have HZ2 : Hid (q = 0 + (1 + (t.kids.length : Int))) := by show q = _; rw [HK2.out, ownWk, if_neg k1, if_neg k4, if_neg k7, if_pos rfl]; omega
          clear HK2
          go_enter Tryd.func30, Tryd.ntmps30
          go_wp2_with fail
          go_ret
          exact ⟨by rw [HZ2.out]; simp, hb1⟩
        · by_cases k8 : kk = 8
          · subst k8
            have HZ2 : Hid (q = 3 + (2 + ((t.str.size : Int) + 7) / 8)) := by show q = _; rw [HK2.out, ownWk, if_neg k1, if_neg k4, if_neg k7, if_neg k5, if_pos rfl]; omega
            clear HK2
            go_enter Tryd.func30, Tryd.ntmps30
            go_wp2_with fail
            go_ret
            exact ⟨by rw [HZ2.out]; simp; omega, hb1⟩
          · by_cases k6 : kk = 6
            · subst k6
              have HZ2 : Hid (q = 2 + ((t.str.size : Int) + 7) / 8) := by show q = _; rw [HK2.out, ownWk, if_neg k1, if_neg k4, if_neg k7, if_neg k5, if_neg k8, if_pos rfl]
              clear HK2
              go_enter Tryd.func30, Tryd.ntmps30
              go_wp2_with fail
              go_ret
              exact ⟨by rw [HZ2.out]; simp; omega, hb1⟩
            · have HZ2 : Hid (q = 0) := by show q = _; rw [HK2.out, ownWk, if_neg k1, if_neg k4, if_neg k7, if_neg k5, if_neg k8, if_neg k6]
              clear HK2
              go_enter Tryd.func30, Tryd.ntmps30
              go_wp2_with fail
              go_ret
              exact ⟨by rw [HZ2.out]; rfl, hb1⟩

def Tm.words (t : Tm) : Int := t.sum ownW

set_option maxHeartbeats 1000000 in
theorem words_any (t : Tm) (v : Value) (w : World) (h : IsT w t v) (hn : t.nodes ≤ 1000000) (hw : t.words ≤ 4611686018427387904) : Calls Tryd.prog 14 #[v] w fun e w' => e = .returned (.int .i64 t.words) ∧ Below w.heap.size w w' := by
  have h0 := h
  obtain ⟨sl, sk, rfl, hl, hk, -, -, -⟩ := h.open
  obtain ⟨pl, cl, rfl⟩ := hl.shape
  obtain ⟨pk, ck, rfl, -⟩ := hk.shape
  simp only [tmV] at *
  have hb1 := (Below.refl w.heap.size w).alloc (Nat.le_refl _) (.cells #[.int .i64 t.kind, .bool t.neg, .slice pl t.limbs.length cl, .string t.str, .int .i64 t.num, .slice pk t.kids.length ck] 27)
  go_enter Tryd.func14, Tryd.ntmps14
  go_wp2_with fail
  refine (totalW_any ownW ownW_nonneg (fun t v w h hn => ownWords_any t v w h hn) t _ _ (h0.under hb1) hw hn).mono ?_
  rintro e w1 ⟨rfl, b1⟩
  go_wp2_with fail
  go_ret
  exact ⟨rfl, hb1.trans (b1.mono hb1.size)⟩
end Go.Proofs.YtfcdocgjmgpmkaaDoor
