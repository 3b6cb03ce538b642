
/-
  ext: what stands for a term, plain; which terms may be, plain.
-/
import Derived.Test.YtbmondbicnfcpaaDoorExtD
import Derived.Test.YtbmondbicnfcpaaDoorTermCheck
import Derived.Test.YtbmondbicnfcpaaDoorTermList
namespace Go.Proofs.YtbmondbicnfcpaaDoor
open Go.RowKit
set_option linter.unusedVariables false
set_option linter.unusedSimpArgs false

/-- How many bits a number has. -/
def lenN (n : Nat) : Nat := if n = 0 then 0 else Nat.log2 n + 1
theorem T_two : ∀ n : Nat, T n = ((2 ^ n : Nat) : Int)
  | 0 => rfl
  | n + 1 => by
    have h := T_two n
    have e : T (n + 1) = 2 * T n := rfl
    rw [e, h, Nat.pow_succ]
    omega
theorem lenN_is (A : Nat) : IsLen (A : Int) (lenN A) := by
  unfold lenN
  by_cases h : A = 0
  · exact .inl ⟨by simp [h], by rw [if_pos h]⟩
  · rw [if_neg h]
    have h1 := Nat.log2_self_le h
    have h2 : A < 2 ^ (Nat.log2 A + 1) := Nat.lt_log2_self
    refine .inr ⟨by omega, ?_, ?_⟩
    · rw [T_two]; exact_mod_cast h1
    · rw [T_two]; exact_mod_cast h2
/-- What stands for a number. -/
def intL (x : Int) : List UInt8 :=
  if 0 ≤ x ∧ x ≤ 255 then [97, UInt8.ofNat x.toNat] else if -2147483648 ≤ x ∧ x ≤ 2147483647 then 98 :: four (u32of x) else bigB x (lenN x.natAbs)
theorem IntB.eq {x : Int} {L : List UInt8} (h : IntB x L) : L = intL x ∧ L.length ≤ 51 := by
  rcases h with ⟨h1, h2, rfl⟩ | ⟨h1, h2, h3, rfl⟩ | ⟨h1, n, h2, h3, rfl⟩
  · exact ⟨by unfold intL; rw [if_pos ⟨h1, h2⟩], by simp⟩
  · exact ⟨by unfold intL; rw [if_neg (by omega), if_pos ⟨h2, h3⟩], by simp [four]⟩
  · refine ⟨?_, by simp [bigB]; omega⟩
    unfold intL
    rw [if_neg (by omega), if_neg (by omega), IsLen.one h2 (lenN_is _)]

/-- A list's length, its heads' bytes, its tail's; else the bytes alone. -/
abbrev PT := Nat × List UInt8 × List UInt8
def ptB (p : PT) : List UInt8 := if p.1 = 0 then p.2.2 else 108 :: (four p.1 ++ p.2.1 ++ p.2.2)
def pF (t : Tm) (Ks : List PT) : PT :=
  if t.kind = 4 then ((Ks.getD 1 (0, [], [])).1 + 1, ptB (Ks.getD 0 (0, [], [])) ++ (Ks.getD 1 (0, [], [])).2.1, (Ks.getD 1 (0, [], [])).2.2)
  else (0, [], if t.kind = 1 then intL (Z t.neg (V t.limbs)) else if t.kind = 2 then 119 :: UInt8.ofNat t.str.size :: t.str.data.toList else if t.kind = 5 then 104 :: UInt8.ofNat Ks.length :: Ks.flatMap ptB else if t.kind = 6 then 109 :: (four t.str.size ++ t.str.data.toList) else [106])
def putP : Tm → PT := Tm.fold pF
/-- What stands for a term that may be. -/
def putT (t : Tm) : List UInt8 := ptB (putP t)
def putK (K : List Tm) : List UInt8 := K.flatMap putT
theorem putP_eq (t : Tm) : putP t = pF t (t.kids.map putP) := by
  cases t
  unfold putP
  rw [Tm.fold_mk]
theorem putK_nil : putK [] = [] := rfl
theorem putK_app (a b : List Tm) : putK (a ++ b) = putK a ++ putK b := by simp [putK]
theorem putK_cons (a : Tm) (b : List Tm) : putK (a :: b) = putT a ++ putK b := by simp [putK]
theorem putK_one (a : Tm) : putK [a] = putT a := by simp [putK]
theorem putK_take (K : List Tm) (i : Nat) (h : i < K.length) : putK (K.take (i + 1)) = putK (K.take i) ++ putT K[i] := by
  rw [List.take_succ_eq_append_getElem h, putK_app, putK_one]
theorem putT_1 {t : Tm} (h : t.kind = 1) : putT t = intL (Z t.neg (V t.limbs)) := by
  unfold putT; rw [putP_eq]; simp [pF, ptB, h]
theorem putT_2 {t : Tm} (h : t.kind = 2) : putT t = 119 :: UInt8.ofNat t.str.size :: t.str.data.toList := by
  unfold putT; rw [putP_eq]; simp [pF, ptB, h]
theorem putT_3 {t : Tm} (h : t.kind = 3) : putT t = [106] := by
  unfold putT; rw [putP_eq]; simp [pF, ptB, h]
theorem putT_5 {t : Tm} (h : t.kind = 5) : putT t = 104 :: UInt8.ofNat t.kids.length :: putK t.kids := by
  unfold putT; rw [putP_eq]; simp [pF, ptB, h, putK, List.flatMap_map]; rfl
theorem putT_6 {t : Tm} (h : t.kind = 6) : putT t = 109 :: (four t.str.size ++ t.str.data.toList) := by
  unfold putT; rw [putP_eq]; simp [pF, ptB, h]
theorem putP_own {t : Tm} (h : ¬ t.kind = 4) : putP t = (0, [], putT t) := by
  have e : (putP t).1 = 0 ∧ (putP t).2.1 = [] := by rw [putP_eq]; simp [pF, h]
  have e2 : putT t = (putP t).2.2 := by unfold putT ptB; rw [if_pos e.1]
  rw [e2, ← e.1, ← e.2]
theorem putP_list (tl : Tm) (h : ¬ tl.kind = 4) : ∀ H : List Tm, putP (listT H tl) = (H.length, putK H, putT tl)
  | [] => putP_own h
  | a :: H => by
    have ih := putP_list tl h H
    show putP (consT a (listT H tl)) = _
    rw [putP_eq]
    simp only [consT, Tm.kids, List.map_cons, List.map_nil, ih, pF, Tm.kind, if_true, List.getD_cons_zero, List.getD_cons_succ, List.length_cons, putK_cons]
    rfl
theorem putT_list (tl : Tm) (h : ¬ tl.kind = 4) (H : List Tm) (h0 : 0 < H.length) : putT (listT H tl) = 108 :: (four H.length ++ putK (H ++ [tl])) := by
  unfold putT ptB
  rw [putP_list tl h H, if_neg (by simp; intro e; simp [e] at h0), putK_app, putK_one]
  simp

/-- May it be, if it lies so deep? (How many nodes it has is not asked.) -/
def dF (t : Tm) (Ks : List (Nat → Prop)) (d : Nat) : Prop :=
  d ≤ 60 ∧ aloneK t.kind t.neg t.limbs t.str t.num Ks.length = true ∧ if t.kind = 4 then (∃ f g, Ks = [f, g] ∧ f (d + 1) ∧ g d) else ∀ f ∈ Ks, f (d + 1)
def okD : Tm → Nat → Prop := Tm.fold dF
theorem okD_eq (t : Tm) (d : Nat) : okD t d ↔ (d ≤ 60 ∧ t.alone = true ∧ if t.kind = 4 then (∃ a b, t.kids = [a, b] ∧ okD a (d + 1) ∧ okD b d) else ∀ k ∈ t.kids, okD k (d + 1)) := by
  cases t with
  | mk k n L S N K =>
    unfold okD
    rw [Tm.fold_mk]
    simp only [dF, Tm.kind, Tm.alone, Tm.kids, Tm.neg, Tm.limbs, Tm.str, Tm.num, List.length_map, List.mem_map]
    by_cases h4 : k = 4
    · simp only [h4, if_true]
      constructor
      · rintro ⟨h1, h2, f, g, h3, h5, h6⟩
        refine ⟨h1, h2, ?_⟩
        match K, h3 with
        | [a, b], h3 =>
          simp only [List.map_cons, List.map_nil, List.cons.injEq, and_true] at h3
          obtain ⟨rfl, rfl⟩ := h3
          exact ⟨a, b, rfl, h5, h6⟩
      · rintro ⟨h1, h2, a, b, rfl, h5, h6⟩
        exact ⟨h1, h2, _, _, rfl, h5, h6⟩
    · simp only [h4, if_false]
      constructor
      · rintro ⟨h1, h2, h3⟩
        exact ⟨h1, h2, fun k hk => h3 _ ⟨k, hk, rfl⟩⟩
      · rintro ⟨h1, h2, h3⟩
        refine ⟨h1, h2, ?_⟩
        rintro f ⟨k, hk, rfl⟩
        exact h3 k hk
theorem okD.deep {t : Tm} {d : Nat} (h : okD t d) : d ≤ 60 := ((okD_eq t d).1 h).1
theorem okD.alone {t : Tm} {d : Nat} (h : okD t d) : t.alone = true := ((okD_eq t d).1 h).2.1
theorem okD.kid {t : Tm} {d : Nat} (h : okD t d) (h4 : ¬ t.kind = 4) : ∀ k ∈ t.kids, okD k (d + 1) := by
  have := ((okD_eq t d).1 h).2.2
  rwa [if_neg h4] at this
/-- A Cons that may be is one of a head and a tail. -/
theorem alone_cons {t : Tm} (h : t.alone = true) (h4 : t.kind = 4) : ∃ a b, t = consT a b := by
  obtain ⟨a, b, hk⟩ := alone_two t h h4
  cases t with
  | mk k n L S N K =>
    simp only [Tm.kind, Tm.kids] at h4 hk
    subst h4; subst hk
    simp [Tm.alone, aloneK, restB, Tm.kind, Tm.neg, Tm.limbs, Tm.str, Tm.num, Tm.kids] at h
    obtain ⟨⟨⟨rfl, rfl⟩, h3⟩, rfl⟩ := h
    refine ⟨a, b, ?_⟩
    have : S = ⟨#[]⟩ := by
      have h5 : S.data.toList = [] := by rw [← tl_eq]; exact h3
      cases S with
      | mk d => simp at h5; rw [h5]
    rw [this]; rfl
theorem alone_consT (a b : Tm) : (consT a b).alone = true := by
  simp [Tm.alone, consT, aloneK, restB, Tm.kind, Tm.neg, Tm.limbs, Tm.str, Tm.num, Tm.kids]
theorem okD_cons (a b : Tm) (d : Nat) : okD (consT a b) d ↔ okD a (d + 1) ∧ okD b d := by
  rw [okD_eq, alone_consT]
  simp only [consT, Tm.kind, Tm.kids, if_true, true_and, List.cons.injEq, and_true]
  constructor
  · rintro ⟨h1, a', b', ⟨rfl, rfl⟩, h2, h3⟩
    exact ⟨h2, h3⟩
  · rintro ⟨h2, h3⟩
    exact ⟨h3.deep, a, b, ⟨rfl, rfl⟩, h2, h3⟩
theorem okD_list (tl : Tm) (d : Nat) : ∀ H : List Tm, okD (listT H tl) d ↔ (∀ h ∈ H, okD h (d + 1)) ∧ okD tl d
  | [] => by simp [listT]
  | a :: H => by
    show okD (consT a (listT H tl)) d ↔ _
    rw [okD_cons, okD_list tl d H]
    simp only [List.mem_cons, forall_eq_or_imp]
    exact and_assoc.symm
theorem nodes_list (tl : Tm) : ∀ H : List Tm, (listT H tl).nodes = nodesL H + H.length + tl.nodes
  | [] => by simp [listT, nodesL]
  | a :: H => by
    have ih := nodes_list tl H
    show (consT a (listT H tl)).nodes = _
    rw [Tm.nodes_eq]
    simp only [consT, Tm.kids, nodesL, List.length_cons, ih]
    omega
theorem nodes_pos (t : Tm) : 0 < t.nodes := by rw [Tm.nodes_eq]; omega
/-- A list that may be, as heads and a tail that is none. -/
theorem okD_split : ∀ (m : Nat) (t : Tm) (d : Nat), t.nodes ≤ m → okD t d → ∃ H tl, t = listT H tl ∧ ¬ tl.kind = 4 ∧ (t.kind = 4 → 0 < H.length)
  | 0, t, d, hm, _ => by have := nodes_pos t; omega
  | m + 1, t, d, hm, h => by
    by_cases h4 : t.kind = 4
    · obtain ⟨a, b, rfl⟩ := alone_cons h.alone h4
      have hb := ((okD_cons a b d).1 h).2
      have hn : b.nodes ≤ m := by
        rw [Tm.nodes_eq] at hm
        simp only [consT, Tm.kids, nodesL] at hm
        omega
      obtain ⟨H, tl, rfl, h1, h2⟩ := okD_split m b d hn hb
      exact ⟨a :: H, tl, rfl, h1, fun _ => by simp⟩
    · exact ⟨[], t, rfl, h4, fun e => absurd e h4⟩
theorem chkL_of (d : Nat) : ∀ (l : List Tm) (hl : ∀ t ∈ l, ∀ n m, chk t d n = some m ↔ okD t d ∧ t.nodes + m = n) (n m : Nat), chkL l d n = some m ↔ (∀ t ∈ l, okD t d) ∧ nodesL l + m = n
  | [], _, n, m => by simp [chkL, nodesL]; exact eq_comm
  | t :: r, hl, n, m => by
    have h1 := hl t (by simp)
    have h2 := chkL_of d r (fun t ht => hl t (by simp [ht]))
    simp only [chkL, nodesL, List.mem_cons, forall_eq_or_imp]
    cases hc : chk t d n with
    | none =>
      simp only [reduceCtorEq, false_iff, not_and]
      rintro ⟨h3, h4⟩ h5
      have := (h1 n (nodesL r + m)).2 ⟨h3, by omega⟩
      rw [hc] at this
      cases this
    | some k =>
      have h3 := (h1 n k).1 hc
      show chkL r d k = some m ↔ _
      rw [h2 k m]
      constructor
      · rintro ⟨h4, h5⟩
        exact ⟨⟨h3.1, h4⟩, by omega⟩
      · rintro ⟨⟨h4, h5⟩, h6⟩
        exact ⟨h5, by omega⟩
theorem chk_iff : ∀ (t : Tm) (d n m : Nat), chk t d n = some m ↔ okD t d ∧ t.nodes + m = n :=
  Tm.ind (P := fun t => ∀ (d n m : Nat), chk t d n = some m ↔ okD t d ∧ t.nodes + m = n) (fun k ng L S N K ih d n m => by
    obtain ⟨t, ht⟩ : ∃ t : Tm, t = .mk k ng L S N K := ⟨_, rfl⟩
    have hK : t.kids = K := by rw [ht]
    rw [← ht]
    by_cases hd : 60 < d
    · rw [chk_deep t d n hd]
      simp only [reduceCtorEq, false_iff, not_and]
      intro h; have := h.deep; omega
    · by_cases hn : n = 0
      · rw [hn, chk_zero]
        simp only [reduceCtorEq, false_iff, not_and]
        intro _ h
        have := nodes_pos t
        omega
      · by_cases ha : t.alone = true
        · by_cases h4 : t.kind = 4
          · obtain ⟨a, b, hab⟩ := alone_two t ha h4
            rw [hK] at hab
            rw [chk_cons t a b d n (by omega) (by omega) ha h4 (by rw [hK, hab]), hK, hab, okD_eq, if_pos h4, hK, hab, Tm.nodes_eq, hK, hab]
            have ia := ih a (by simp [hab]) (d + 1)
            have ib := ih b (by simp [hab]) d
            simp only [List.take_succ_cons, List.take_zero, chkL, nodesL]
            constructor
            · intro h
              cases hc : chk a (d + 1) (n - 1) with
              | none => rw [hc] at h; cases h
              | some q =>
                rw [hc] at h
                have h5 := (ia _ _).1 hc
                have h6 := (ib q m).1 h
                exact ⟨⟨by omega, ha, a, b, rfl, h5.1, h6.1⟩, by omega⟩
            · rintro ⟨⟨_, _, a', b', he, h5, h6⟩, h7⟩
              simp only [List.cons.injEq, and_true] at he
              obtain ⟨rfl, rfl⟩ := he
              rw [(ia (n - 1) (b.nodes + m)).2 ⟨h5, by omega⟩]
              exact (ib _ _).2 ⟨h6, rfl⟩
          · rw [chk_other t d n (by omega) (by omega) ha h4, hK, okD_eq, if_neg h4, hK, Tm.nodes_eq, hK, chkL_of (d + 1) K (fun t ht n m => ih t ht (d + 1) n m)]
            constructor
            · rintro ⟨h1, h2⟩
              exact ⟨⟨by omega, ha, h1⟩, by omega⟩
            · rintro ⟨⟨_, _, h1⟩, h2⟩
              exact ⟨h1, by omega⟩
        · rw [chk_bad t d n (by simpa using ha)]
          simp only [reduceCtorEq, false_iff, not_and]
          intro h; exact absurd h.alone ha)
theorem ok_iff (t : Tm) : t.ok = true ↔ okD t 1 ∧ t.nodes ≤ 2000 := by
  unfold Tm.ok
  cases hc : chk t 1 2000 with
  | none =>
    simp only [Option.isSome_none, Bool.false_eq_true, false_iff, not_and]
    intro h1 h2
    have := (chk_iff t 1 2000 (2000 - t.nodes)).2 ⟨h1, by omega⟩
    rw [hc] at this; cases this
  | some m =>
    have := (chk_iff t 1 2000 m).1 hc
    exact ⟨fun _ => ⟨this.1, by omega⟩, fun _ => rfl⟩
end Go.Proofs.YtbmondbicnfcpaaDoor
