import Derived.Test.YtbmondbicnfcpaaDoorExtD
import Derived.Test.YtbmondbicnfcpaaDoorTermCheck
import Derived.Test.YtbmondbicnfcpaaDoorTermList
import Derived.Maps.AppendAt
import Derived.Deep.CutRange

/-
  ext: what stands for a term, plain; which terms may be, plain.
-/
namespace Go.Proofs.YtbmondbicnfcpaaDoor
open Go.RowKit
set_option linter.unusedVariables false
set_option linter.unusedSimpArgs false

/-- How many bits a number has. -/
def lenN (n : Nat) : Nat := if n = 0 then 0 else Nat.log2 n + 1
theorem T_two : ∀ n : Nat, T n = ((2 ^ n : Nat) : Int)
  | 0 => rfl
  | n + 1 => by
    have h := T_two n
    have e : T (n + 1) = 2 * T n := rfl
    rw [e, h, Nat.pow_succ]
    omega
theorem lenN_is (A : Nat) : IsLen (A : Int) (lenN A) := by
  unfold lenN
  by_cases h : A = 0
  · exact .inl ⟨by simp [h], by rw [if_pos h]⟩
  · rw [if_neg h]
    have h1 := Nat.log2_self_le h
    have h2 : A < 2 ^ (Nat.log2 A + 1) := Nat.lt_log2_self
    refine .inr ⟨by omega, ?_, ?_⟩
    · rw [T_two]; exact_mod_cast h1
    · rw [T_two]; exact_mod_cast h2
/-- What stands for a number. -/
def intL (x : Int) : List UInt8 :=
  if 0 ≤ x ∧ x ≤ 255 then [97, UInt8.ofNat x.toNat] else if -2147483648 ≤ x ∧ x ≤ 2147483647 then 98 :: four (u32of x) else bigB x (lenN x.natAbs)
theorem IntB.eq {x : Int} {L : List UInt8} (h : IntB x L) : L = intL x ∧ L.length ≤ 51 := by
  rcases h with ⟨h1, h2, rfl⟩ | ⟨h1, h2, h3, rfl⟩ | ⟨h1, n, h2, h3, rfl⟩
  · exact ⟨by unfold intL; rw [if_pos ⟨h1, h2⟩], by simp⟩
  · exact ⟨by unfold intL; rw [if_neg (by omega), if_pos ⟨h2, h3⟩], by simp [four]⟩
  · refine ⟨?_, by simp [bigB]; omega⟩
    unfold intL
    rw [if_neg (by omega), if_neg (by omega), IsLen.one h2 (lenN_is _)]

/-- A list's length, its heads' bytes, its tail's; else the bytes alone. -/
abbrev PT := Nat × List UInt8 × List UInt8
def ptB (p : PT) : List UInt8 := if p.1 = 0 then p.2.2 else 108 :: (four p.1 ++ p.2.1 ++ p.2.2)
def pF (t : Tm) (Ks : List PT) : PT :=
  if t.kind = 4 then ((Ks.getD 1 (0, [], [])).1 + 1, ptB (Ks.getD 0 (0, [], [])) ++ (Ks.getD 1 (0, [], [])).2.1, (Ks.getD 1 (0, [], [])).2.2)
  else (0, [], if t.kind = 1 then intL (Z t.neg (V t.limbs)) else if t.kind = 2 then 119 :: UInt8.ofNat t.str.size :: t.str.data.toList else if t.kind = 5 then 104 :: UInt8.ofNat Ks.length :: Ks.flatMap ptB else if t.kind = 6 then 109 :: (four t.str.size ++ t.str.data.toList) else [106])
def putP : Tm → PT := Tm.fold pF
/-- What stands for a term that may be. -/
def putT (t : Tm) : List UInt8 := ptB (putP t)
def putK (K : List Tm) : List UInt8 := K.flatMap putT
theorem putP_eq (t : Tm) : putP t = pF t (t.kids.map putP) := by
  cases t
  unfold putP
  rw [Tm.fold_mk]
theorem putK_nil : putK [] = [] := rfl
theorem putK_app (a b : List Tm) : putK (a ++ b) = putK a ++ putK b := by simp [putK]
theorem putK_cons (a : Tm) (b : List Tm) : putK (a :: b) = putT a ++ putK b := by simp [putK]
theorem putK_one (a : Tm) : putK [a] = putT a := by simp [putK]
theorem putK_take (K : List Tm) (i : Nat) (h : i < K.length) : putK (K.take (i + 1)) = putK (K.take i) ++ putT K[i] := by
  rw [List.take_succ_eq_append_getElem h, putK_app, putK_one]
theorem putT_1 {t : Tm} (h : t.kind = 1) : putT t = intL (Z t.neg (V t.limbs)) := by
  unfold putT; rw [putP_eq]; simp [pF, ptB, h]
theorem putT_2 {t : Tm} (h : t.kind = 2) : putT t = 119 :: UInt8.ofNat t.str.size :: t.str.data.toList := by
  unfold putT; rw [putP_eq]; simp [pF, ptB, h]
theorem putT_3 {t : Tm} (h : t.kind = 3) : putT t = [106] := by
  unfold putT; rw [putP_eq]; simp [pF, ptB, h]
theorem putT_5 {t : Tm} (h : t.kind = 5) : putT t = 104 :: UInt8.ofNat t.kids.length :: putK t.kids := by
  unfold putT; rw [putP_eq]; simp [pF, ptB, h, putK, List.flatMap_map]; rfl
theorem putT_6 {t : Tm} (h : t.kind = 6) : putT t = 109 :: (four t.str.size ++ t.str.data.toList) := by
  unfold putT; rw [putP_eq]; simp [pF, ptB, h]
theorem putP_own {t : Tm} (h : ¬ t.kind = 4) : putP t = (0, [], putT t) := by
  have e : (putP t).1 = 0 ∧ (putP t).2.1 = [] := by rw [putP_eq]; simp [pF, h]
  have e2 : putT t = (putP t).2.2 := by unfold putT ptB; rw [if_pos e.1]
  rw [e2, ← e.1, ← e.2]
theorem putP_list (tl : Tm) (h : ¬ tl.kind = 4) : ∀ H : List Tm, putP (listT H tl) = (H.length, putK H, putT tl)
  | [] => putP_own h
  | a :: H => by
    have ih := putP_list tl h H
    show putP (consT a (listT H tl)) = _
    rw [putP_eq]
    simp only [consT, Tm.kids, List.map_cons, List.map_nil, ih, pF, Tm.kind, if_true, List.getD_cons_zero, List.getD_cons_succ, List.length_cons, putK_cons]
    rfl
theorem putT_list (tl : Tm) (h : ¬ tl.kind = 4) (H : List Tm) (h0 : 0 < H.length) : putT (listT H tl) = 108 :: (four H.length ++ putK (H ++ [tl])) := by
  unfold putT ptB
  rw [putP_list tl h H, if_neg (by simp; intro e; simp [e] at h0), putK_app, putK_one]
  simp

/-- May it be, if it lies so deep? (How many nodes it has is not asked.) -/
def dF (t : Tm) (Ks : List (Nat → Prop)) (d : Nat) : Prop :=
  d ≤ 60 ∧ aloneK t.kind t.neg t.limbs t.str t.num Ks.length = true ∧ if t.kind = 4 then (∃ f g, Ks = [f, g] ∧ f (d + 1) ∧ g d) else ∀ f ∈ Ks, f (d + 1)
def okD : Tm → Nat → Prop := Tm.fold dF
theorem okD_eq (t : Tm) (d : Nat) : okD t d ↔ (d ≤ 60 ∧ t.alone = true ∧ if t.kind = 4 then (∃ a b, t.kids = [a, b] ∧ okD a (d + 1) ∧ okD b d) else ∀ k ∈ t.kids, okD k (d + 1)) := by
  cases t with
  | mk k n L S N K =>
    unfold okD
    rw [Tm.fold_mk]
    simp only [dF, Tm.kind, Tm.alone, Tm.kids, Tm.neg, Tm.limbs, Tm.str, Tm.num, List.length_map, List.mem_map]
    by_cases h4 : k = 4
    · simp only [h4, if_true]
      constructor
      · rintro ⟨h1, h2, f, g, h3, h5, h6⟩
        refine ⟨h1, h2, ?_⟩
        match K, h3 with
        | [a, b], h3 =>
          simp only [List.map_cons, List.map_nil, List.cons.injEq, and_true] at h3
          obtain ⟨rfl, rfl⟩ := h3
          exact ⟨a, b, rfl, h5, h6⟩
      · rintro ⟨h1, h2, a, b, rfl, h5, h6⟩
        exact ⟨h1, h2, _, _, rfl, h5, h6⟩
    · simp only [h4, if_false]
      constructor
      · rintro ⟨h1, h2, h3⟩
        exact ⟨h1, h2, fun k hk => h3 _ ⟨k, hk, rfl⟩⟩
      · rintro ⟨h1, h2, h3⟩
        refine ⟨h1, h2, ?_⟩
        rintro f ⟨k, hk, rfl⟩
        exact h3 k hk
theorem okD.deep {t : Tm} {d : Nat} (h : okD t d) : d ≤ 60 := ((okD_eq t d).1 h).1
theorem okD.alone {t : Tm} {d : Nat} (h : okD t d) : t.alone = true := ((okD_eq t d).1 h).2.1
theorem okD.kid {t : Tm} {d : Nat} (h : okD t d) (h4 : ¬ t.kind = 4) : ∀ k ∈ t.kids, okD k (d + 1) := by
  have := ((okD_eq t d).1 h).2.2
  rwa [if_neg h4] at this
/-- A Cons that may be is one of a head and a tail. -/
theorem alone_cons {t : Tm} (h : t.alone = true) (h4 : t.kind = 4) : ∃ a b, t = consT a b := by
  obtain ⟨a, b, hk⟩ := alone_two t h h4
  cases t with
  | mk k n L S N K =>
    simp only [Tm.kind, Tm.kids] at h4 hk
    subst h4; subst hk
    simp [Tm.alone, aloneK, restB, Tm.kind, Tm.neg, Tm.limbs, Tm.str, Tm.num, Tm.kids] at h
    obtain ⟨⟨⟨rfl, rfl⟩, h3⟩, rfl⟩ := h
    refine ⟨a, b, ?_⟩
    have : S = ⟨#[]⟩ := by
      have h5 : S.data.toList = [] := by rw [← tl_eq]; exact h3
      cases S with
      | mk d => simp at h5; rw [h5]
    rw [this]; rfl
theorem alone_consT (a b : Tm) : (consT a b).alone = true := by
  simp [Tm.alone, consT, aloneK, restB, Tm.kind, Tm.neg, Tm.limbs, Tm.str, Tm.num, Tm.kids]
theorem okD_cons (a b : Tm) (d : Nat) : okD (consT a b) d ↔ okD a (d + 1) ∧ okD b d := by
  rw [okD_eq, alone_consT]
  simp only [consT, Tm.kind, Tm.kids, if_true, true_and, List.cons.injEq, and_true]
  constructor
  · rintro ⟨h1, a', b', ⟨rfl, rfl⟩, h2, h3⟩
    exact ⟨h2, h3⟩
  · rintro ⟨h2, h3⟩
    exact ⟨h3.deep, a, b, ⟨rfl, rfl⟩, h2, h3⟩
theorem okD_list (tl : Tm) (d : Nat) : ∀ H : List Tm, okD (listT H tl) d ↔ (∀ h ∈ H, okD h (d + 1)) ∧ okD tl d
  | [] => by simp [listT]
  | a :: H => by
    show okD (consT a (listT H tl)) d ↔ _
    rw [okD_cons, okD_list tl d H]
    simp only [List.mem_cons, forall_eq_or_imp]
    exact and_assoc.symm
theorem nodes_list (tl : Tm) : ∀ H : List Tm, (listT H tl).nodes = nodesL H + H.length + tl.nodes
  | [] => by simp [listT, nodesL]
  | a :: H => by
    have ih := nodes_list tl H
    show (consT a (listT H tl)).nodes = _
    rw [Tm.nodes_eq]
    simp only [consT, Tm.kids, nodesL, List.length_cons, ih]
    omega
theorem nodes_pos (t : Tm) : 0 < t.nodes := by rw [Tm.nodes_eq]; omega
/-- A list that may be, as heads and a tail that is none. -/
theorem okD_split : ∀ (m : Nat) (t : Tm) (d : Nat), t.nodes ≤ m → okD t d → ∃ H tl, t = listT H tl ∧ ¬ tl.kind = 4 ∧ (t.kind = 4 → 0 < H.length)
  | 0, t, d, hm, _ => by have := nodes_pos t; omega
  | m + 1, t, d, hm, h => by
    by_cases h4 : t.kind = 4
    · obtain ⟨a, b, rfl⟩ := alone_cons h.alone h4
      have hb := ((okD_cons a b d).1 h).2
      have hn : b.nodes ≤ m := by
        rw [Tm.nodes_eq] at hm
        simp only [consT, Tm.kids, nodesL] at hm
        omega
      obtain ⟨H, tl, rfl, h1, h2⟩ := okD_split m b d hn hb
      exact ⟨a :: H, tl, rfl, h1, fun _ => by simp⟩
    · exact ⟨[], t, rfl, h4, fun e => absurd e h4⟩
theorem chkL_of (d : Nat) : ∀ (l : List Tm) (hl : ∀ t ∈ l, ∀ n m, chk t d n = some m ↔ okD t d ∧ t.nodes + m = n) (n m : Nat), chkL l d n = some m ↔ (∀ t ∈ l, okD t d) ∧ nodesL l + m = n
  | [], _, n, m => by simp [chkL, nodesL]; exact eq_comm
  | t :: r, hl, n, m => by
    have h1 := hl t (by simp)
    have h2 := chkL_of d r (fun t ht => hl t (by simp [ht]))
    simp only [chkL, nodesL, List.mem_cons, forall_eq_or_imp]
    cases hc : chk t d n with
    | none =>
      simp only [reduceCtorEq, false_iff, not_and]
      rintro ⟨h3, h4⟩ h5
      have := (h1 n (nodesL r + m)).2 ⟨h3, by omega⟩
      rw [hc] at this
      cases this
    | some k =>
      have h3 := (h1 n k).1 hc
      show chkL r d k = some m ↔ _
      rw [h2 k m]
      constructor
      · rintro ⟨h4, h5⟩
        exact ⟨⟨h3.1, h4⟩, by omega⟩
      · rintro ⟨⟨h4, h5⟩, h6⟩
        exact ⟨h5, by omega⟩
theorem chk_iff : ∀ (t : Tm) (d n m : Nat), chk t d n = some m ↔ okD t d ∧ t.nodes + m = n :=
  Tm.ind (P := fun t => ∀ (d n m : Nat), chk t d n = some m ↔ okD t d ∧ t.nodes + m = n) (fun k ng L S N K ih d n m => by
    obtain ⟨t, ht⟩ : ∃ t : Tm, t = .mk k ng L S N K := ⟨_, rfl⟩
    have hK : t.kids = K := by rw [ht]
    rw [← ht]
    by_cases hd : 60 < d
    · rw [chk_deep t d n hd]
      simp only [reduceCtorEq, false_iff, not_and]
      intro h; have := h.deep; omega
    · by_cases hn : n = 0
      · rw [hn, chk_zero]
        simp only [reduceCtorEq, false_iff, not_and]
        intro _ h
        have := nodes_pos t
        omega
      · by_cases ha : t.alone = true
        · by_cases h4 : t.kind = 4
          · obtain ⟨a, b, hab⟩ := alone_two t ha h4
            rw [hK] at hab
            rw [chk_cons t a b d n (by omega) (by omega) ha h4 (by rw [hK, hab]), hK, hab, okD_eq, if_pos h4, hK, hab, Tm.nodes_eq, hK, hab]
            have ia := ih a (by simp [hab]) (d + 1)
            have ib := ih b (by simp [hab]) d
            simp only [List.take_succ_cons, List.take_zero, chkL, nodesL]
            constructor
            · intro h
              cases hc : chk a (d + 1) (n - 1) with
              | none => rw [hc] at h; cases h
              | some q =>
                rw [hc] at h
                have h5 := (ia _ _).1 hc
                have h6 := (ib q m).1 h
                exact ⟨⟨by omega, ha, a, b, rfl, h5.1, h6.1⟩, by omega⟩
            · rintro ⟨⟨_, _, a', b', he, h5, h6⟩, h7⟩
              simp only [List.cons.injEq, and_true] at he
              obtain ⟨rfl, rfl⟩ := he
              rw [(ia (n - 1) (b.nodes + m)).2 ⟨h5, by omega⟩]
              exact (ib _ _).2 ⟨h6, rfl⟩
          · rw [chk_other t d n (by omega) (by omega) ha h4, hK, okD_eq, if_neg h4, hK, Tm.nodes_eq, hK, chkL_of (d + 1) K (fun t ht n m => ih t ht (d + 1) n m)]
            constructor
            · rintro ⟨h1, h2⟩
              exact ⟨⟨by omega, ha, h1⟩, by omega⟩
            · rintro ⟨⟨_, _, h1⟩, h2⟩
              exact ⟨h1, by omega⟩
        · rw [chk_bad t d n (by simpa using ha)]
          simp only [reduceCtorEq, false_iff, not_and]
          intro h; exact absurd h.alone ha)
theorem ok_iff (t : Tm) : t.ok = true ↔ okD t 1 ∧ t.nodes ≤ 2000 := by
  unfold Tm.ok
  cases hc : chk t 1 2000 with
  | none =>
    simp only [Option.isSome_none, Bool.false_eq_true, false_iff, not_and]
    intro h1 h2
    have := (chk_iff t 1 2000 (2000 - t.nodes)).2 ⟨h1, by omega⟩
    rw [hc] at this; cases this
  | some m =>
    have := (chk_iff t 1 2000 m).1 hc
    exact ⟨fun _ => ⟨this.1, by omega⟩, fun _ => rfl⟩
end Go.Proofs.YtbmondbicnfcpaaDoor

/-
  Rows of terms: what stands at a place.
-/
namespace Go.Proofs.YtbmondbicnfcpaaDoor
open Go.RowKit
set_option linter.unusedVariables false
set_option linter.unusedSimpArgs false

theorem flat_got : ∀ (ps : List (Value × Tm)), (∀ p ∈ ps, (cells6 p.1).length = 6) → ∀ (i j : Nat) (hi : i < ps.length), j < 6 → (flat ps)[i * 6 + j]? = (cells6 ps[i].1)[j]?
  | [], _, i, j, hi, _ => by simp at hi
  | p :: ps, h, 0, j, hi, hj => by
    have h6 := h p (by simp)
    have : flat (p :: ps) = cells6 p.1 ++ flat ps := by simp [flat]
    rw [this, List.getElem?_append_left (by omega)]
    simp
  | p :: ps, h, i + 1, j, hi, hj => by
    have h6 := h p (by simp)
    have : flat (p :: ps) = cells6 p.1 ++ flat ps := by simp [flat]
    rw [this, List.getElem?_append_right (by omega), h6, show (i + 1) * 6 + j - 6 = i * 6 + j by omega, flat_got ps (fun q hq => h q (List.mem_cons_of_mem _ hq)) i j (by simpa using hi) hj]
    simp

theorem tmV_one {k k' : Int} {n n' : Bool} {sl sl' : Value} {S S' : ByteArray} {N N' : Int} {sk sk' : Value} (h : tmV k n sl S N sk = tmV k' n' sl' S' N' sk') : k = k' ∧ n = n' ∧ sl = sl' ∧ S = S' ∧ N = N' ∧ sk = sk' := by
  simpa [tmV] using h
theorem part_facts {w wr w5 : World} {k : Int} {n : Bool} {sl : Value} {S : ByteArray} {N : Int} {sk v : Value} {ps : List (Value × Tm)} {o : Obj} (hB : Below w.heap.size w wr) (hBt : Bt wr w.heap.size k n sl S N sk) (hW : WaitT wr (w.heap.size + 1) v ps) (hgr : (wr.alloc o).grownBy w5 v.ownBlock) :
    Bt w5 w.heap.size k n sl S N sk ∧ Below w.heap.size w w5 := by
  have hlt := hBt.lt
  have b1 := (Below.refl wr.heap.size wr).alloc (Nat.le_refl _) o
  have u1 := hBt.under b1
  have hr : ∀ j, v.ownBlock = some j → w.heap.size + 1 ≤ j := fun j hj => (World.ownsRow.lt hW j hj).1
  refine ⟨⟨?_, u1.2⟩, (hB.alloc hB.size o).grown hgr (by have := hB.size; simp; omega) (fun j hj => by have := hr j hj; omega)⟩
  rw [hgr.block _ u1.lt (fun e => by have := hr _ e.symm; omega)]
  exact u1.1
end Go.Proofs.YtbmondbicnfcpaaDoor


/-
  ext: putList, where putAll serves for less.
-/
namespace Go.Proofs.YtbmondbicnfcpaaDoor
open Go.RowKit
set_option linter.unusedVariables false
set_option linter.unusedSimpArgs false

/-- No row of bytes. -/
def NoB (o : Obj) : Prop := ∀ cs, o ≠ .cells cs 5 (0, 0)
/-- The slice v has in w the terms K, each of them as W0 has it; it lies in W0, or in a block that is no row of bytes. -/
def RdT (W0 w : World) (v : Value) (K : List Tm) : Prop :=
  ∃ (a : Option Addr) (cap : Nat) (el : Nat → Value), v = .slice a K.length cap ∧ (K.length ≤ cap ∧ cap ≤ 9223372036854775807 ∧ (a = none → cap = 0)) ∧
    (0 < K.length → ∃ b off, a = some ⟨b, off, none⟩ ∧ (b < W0.heap.size ∨ ∃ o, w.heap[b]? = some o ∧ NoB o) ∧ ∀ i, i < K.length → At6 w b (off + i * 6) (el i)) ∧ ∀ i (h : i < K.length), IsT W0 (K[i]) (el i)
theorem At6.same {w w' : World} {b off : Nat} {v : Value} (h : At6 w b off v) (hb : w'.heap[b]? = w.heap[b]?) : At6 w' b off v := by
  obtain ⟨c0, c1, c2, c3, c4, c5, rfl, h0, h1, h2, h3, h4, h5⟩ := h
  refine ⟨c0, c1, c2, c3, c4, c5, rfl, ?_, ?_, ?_, ?_, ?_, ?_⟩
  · rw [World.cell?_of_block (w := w) hb]; exact h0
  · rw [World.cell?_of_block (w := w) hb]; exact h1
  · rw [World.cell?_of_block (w := w) hb]; exact h2
  · rw [World.cell?_of_block (w := w) hb]; exact h3
  · rw [World.cell?_of_block (w := w) hb]; exact h4
  · rw [World.cell?_of_block (w := w) hb]; exact h5
theorem RdT.of {W0 w : World} {v : Value} {K : List Tm} (h : Ts W0 v K) (hb : Below W0.heap.size W0 w) : RdT W0 w v K := by
  obtain ⟨a, cap, el, rfl, ⟨h1, h2, h3, h4⟩, h5⟩ := h
  refine ⟨a, cap, el, rfl, ⟨h1, h2, h3⟩, fun h0 => ?_, h5⟩
  obtain ⟨b, off, rfl, hlt, hc⟩ := h4 h0
  exact ⟨b, off, rfl, .inl hlt, fun i hi => (hc i hi).below hb hlt⟩
theorem RdT.keep {W0 w w' : World} {v : Value} {K : List Tm} (h : RdT W0 w v K) (h0 : Below W0.heap.size W0 w) (h1 : Below W0.heap.size W0 w') (k : Keep w w') : RdT W0 w' v K := by
  obtain ⟨a, cap, el, rfl, h2, h3, h5⟩ := h
  refine ⟨a, cap, el, rfl, h2, fun hn => ?_, h5⟩
  obtain ⟨b, off, rfl, hlt, hc⟩ := h3 hn
  refine ⟨b, off, rfl, ?_, ?_⟩
  · rcases hlt with h | ⟨o, h, ho⟩
    · exact .inl h
    · exact .inr ⟨o, k.2 b o h ho, ho⟩
  · have hs : w'.heap[b]? = w.heap[b]? := by
      rcases hlt with h | ⟨o, h, ho⟩
      · rw [h1.block b h, h0.block b h]
      · rw [k.2 b o h ho, h]
    exact fun i hi => (hc i hi).same hs
theorem RdT.shape {W0 w : World} {v : Value} {K : List Tm} (h : RdT W0 w v K) : ∃ a cap, v = .slice a K.length cap ∧ K.length ≤ cap ∧ (cap : Int) ≤ 9223372036854775807 ∧ (a = none → cap = 0) := by
  obtain ⟨a, cap, el, rfl, ⟨h1, h2, h3⟩, _⟩ := h
  exact ⟨a, cap, rfl, h1, by omega, h3⟩
theorem RdT.at {W0 w : World} {a : Option Addr} {n cap : Nat} {K : List Tm} (h : RdT W0 w (.slice a n cap) K) (i : Nat) (hi : i < K.length) :
    ∃ b off v, a = some ⟨b, off, none⟩ ∧ At6 w b (off + i * 6) v ∧ IsT W0 (K[i]) v := by
  obtain ⟨a', cap', el, he, -, h4, hr⟩ := h
  injection he with e1 e2 e3
  subst e1; subst e2; subst e3
  obtain ⟨b, off, rfl, hlt, hc⟩ := h4 (by omega)
  exact ⟨b, off, el i, rfl, hc i hi, hr i hi⟩
/-- A row of terms of the call's own, each as W0 has it. -/
theorem row_rd {W0 w : World} {base : Nat} {v : Value} {ps : List (Value × Tm)} (hw : WaitT w base v ps) (h : ∀ p ∈ ps, IsT W0 p.2 p.1) : RdT W0 w v (ps.map Prod.snd) := by
  rcases hw.2 with ⟨rfl, h1⟩ | ⟨g, cap, cur, rfl, hb, hh, hn, hc, _, _⟩
  · obtain rfl : ps = [] := List.eq_nil_of_length_eq_zero h1
    exact ⟨none, 0, fun _ => .bool false, rfl, ⟨Nat.le_refl _, by decide, fun _ => rfl⟩, fun h => absurd h (by simp), fun i h => absurd h (by simp)⟩
  · have hl : (ps.map Prod.snd).length = ps.length := by simp
    refine ⟨some ⟨g, 0, none⟩, cap, fun i => (ps.map Prod.fst).getD i (.bool false), by rw [hl], ⟨by rw [hl]; exact hn, by unfold maxLen at hc; omega, fun e => (by cases e)⟩, fun _ => ⟨g, 0, rfl, .inr ⟨_, hh, fun cs e => by injection e with _ e2 _; exact absurd e2 (by decide)⟩, fun i hi => ?_⟩, fun i hi => ?_⟩
    · rw [hl] at hi
      have h6 : ∀ p ∈ ps, (cells6 p.1).length = 6 := fun p hp => (h p hp).six
      have hc : ∀ j, j < 6 → w.cell? ⟨g, i * 6 + j, none⟩ = (cells6 ps[i].1)[j]? := fun j hj => by
        rw [World.ownsRow.cellAt hw (i * 6 + j) (by omega), flat_got ps h6 i j hi hj]
      obtain ⟨sl, sk, h1, -⟩ := (h ps[i] (List.getElem_mem hi)).open
      rw [h1] at hc
      have e : (ps.map Prod.fst).getD i (.bool false) = ps[i].1 := by simp [List.getD, hi]
      show At6 w g (0 + i * 6) ((ps.map Prod.fst).getD i (.bool false))
      rw [e, h1, Nat.zero_add]
      exact ⟨_, _, _, _, _, _, rfl, (hc 0 (by omega)).trans rfl, (hc 1 (by omega)).trans rfl, (hc 2 (by omega)).trans rfl, (hc 3 (by omega)).trans rfl, (hc 4 (by omega)).trans rfl, (hc 5 (by omega)).trans rfl⟩
    · rw [hl] at hi
      have := h ps[i] (List.getElem_mem hi)
      simpa [List.getD, hi] using this
theorem Bt.keep {w w' : World} {g : Nat} {k : Int} {neg : Bool} {sl : Value} {S : ByteArray} {N : Int} {sk : Value} (h : Bt w g k neg sl S N sk) (kp : Keep w w') : Bt w' g k neg sl S N sk :=
  ⟨kp.2 g _ h.1 (fun cs e => by injection e with _ e2 _; exact absurd e2 (by decide)), h.2⟩
theorem WaitT.keep {w w' : World} {base : Nat} {v : Value} {ps : List (Value × Tm)} (h : WaitT w base v ps) (kp : Keep w w') : WaitT w' base v ps := by
  obtain ⟨h1, h2⟩ := h
  refine ⟨h1, ?_⟩
  rcases h2 with h3 | ⟨g, cap, cur, rfl, hb1, hh, h4⟩
  · exact .inl h3
  · exact .inr ⟨g, cap, cur, rfl, hb1, kp.2 g _ hh (fun cs e => by injection e with _ e2 _; exact absurd e2 (by decide)), h4⟩
theorem OB.notT {w : World} {base base' : Nat} {v u : Value} {l : List UInt8} {ps : List (Value × Tm)} (h : OB w base v l) (hw : WaitT w base' u ps) : v.ownBlock ≠ u.ownBlock ∨ u.ownBlock = none := by
  rcases hw.2 with ⟨rfl, _⟩ | ⟨g, cap, cur, rfl, _, hh, _⟩
  · exact .inr rfl
  · rcases h.2 with ⟨rfl, _⟩ | ⟨g', cap', cur', rfl, _, hh', _⟩
    · exact .inl (by simp [Value.ownBlock])
    · refine .inl (fun e => ?_)
      simp only [Value.ownBlock, Option.some.injEq] at e
      subst e
      rw [hh] at hh'
      injection hh' with hh'
      injection hh' with _ e2 _
      exact absurd e2 (by decide)
theorem Keep.then {w a b : World} (h : Keep w a) (hb : Below w.heap.size a b) (hs : a.heap.size ≤ b.heap.size) : Keep w b :=
  ⟨Nat.le_trans h.1 hs, fun g o h1 h2 => by rw [hb.block g (Array.getElem?_eq_some_iff.1 h1).1]; exact h.2 g o h1 h2⟩

/-- What a call that puts terms answers. -/
def PutKPost (W0 w : World) (v : Value) (l : List UInt8) (K : List Tm) (e : Ending) (w' : World) : Prop :=
  ∃ v', e = .returned v' ∧ RB w' W0.heap.size v' (l ++ putK K) ∧ (0 < K.length → OB w' W0.heap.size v' (l ++ putK K)) ∧ (K.length = 0 → v' = v ∧ w' = w) ∧ (putK K).length ≤ 410 * nodesL K ∧ Below W0.heap.size W0 w' ∧ Keep w w'
def PutUpto (n : Nat) : Prop := ∀ (K : List Tm) (W0 w : World) (v vs : Value) (l : List UInt8), nodesL K < n → Below W0.heap.size W0 w → RB w W0.heap.size v l → RdT W0 w vs K → (∀ t ∈ K, ∃ d, okD t d) → l.length + 410 * nodesL K ≤ 90000000 →
  Calls Tryd.prog 43 #[v, vs] w fun e w' => PutKPost W0 w v l K e w'
/-- The loop's state: what is out, what is left. -/
def PlSt (W0 w : World) (K : List Tm) (tl : Tm) (q : Nat) (sv : Value) (wr : World) : Prop :=
  ∃ (D R : List Tm) (ps : List (Value × Tm)) (k : Int) (n : Bool) (sl : Value) (S : ByteArray) (N : Int) (sk : Value), D ++ R = K ∧ R.length = q ∧ ps.map Prod.snd = D ∧ WaitT wr (w.heap.size + 1) sv ps ∧ (∀ p ∈ ps, IsT W0 p.2 p.1) ∧ Bt wr w.heap.size k n sl S N sk ∧ IsT W0 (listT R tl) (tmV k n sl S N sk) ∧ Below w.heap.size w wr
end Go.Proofs.YtbmondbicnfcpaaDoor


/-
  ext: putList.
-/
namespace Go.Proofs.YtbmondbicnfcpaaDoor
open Go.RowKit
set_option linter.unusedVariables false
set_option linter.unusedSimpArgs false

theorem len_nodes : ∀ K : List Tm, K.length ≤ nodesL K
  | [] => by simp
  | a :: K => by
    have := len_nodes K
    have := nodes_pos a
    simp only [List.length_cons, nodesL]
    omega
def PutLPost (W0 w : World) (l : List UInt8) (K : List Tm) (L : List UInt8) (e : Ending) (w' : World) : Prop :=
  ∃ v', e = .returned v' ∧ OB w' W0.heap.size v' (l ++ L) ∧ (putK K).length ≤ 410 * nodesL K ∧ Below W0.heap.size W0 w' ∧ Keep w w'

set_option maxRecDepth 100000 in
set_option maxHeartbeats 4000000 in
theorem putList_of (n : Nat) (HA : Hid (PutUpto n)) (H : List Tm) (tl : Tm) (W0 w : World) (v tv : Value) (l : List UInt8) (h4 : ¬ tl.kind = 4) (hn : nodesL (H ++ [tl]) < n) (hW : Below W0.heap.size W0 w) (hR : RB w W0.heap.size v l)
    (ht : IsT W0 (listT H tl) tv) (hok : ∀ t ∈ H ++ [tl], ∃ d, okD t d) (hl : l.length + 5 + 410 * nodesL (H ++ [tl]) ≤ 90000000) :
    Calls Tryd.prog 76 #[v, tv] w fun e w' => PutLPost W0 w l (H ++ [tl]) (108 :: (four H.length ++ putK (H ++ [tl]))) e w' := by
  obtain ⟨ti, hi, hz0, hz1, hz2⟩ := info_parts Tryd.infoT
  have hlen : H.length ≤ 300000 := by
    have h1 := len_nodes (H ++ [tl])
    simp only [List.length_append, List.length_cons, List.length_nil] at h1
    omega
  have h0 := ht
  obtain ⟨sl, sk, rfl, hls, hk, -⟩ := ht.open
  obtain ⟨pl, cl, rfl⟩ := hls.shape
  obtain ⟨pk, ck, rfl, -⟩ := hk.shape
  obtain ⟨t, htt⟩ : ∃ t, t = listT H tl := ⟨_, rfl⟩
  rw [← htt] at h0 ⊢
  have HB : Hid (Below w.heap.size w (w.alloc (.cells #[.int .i64 t.kind, .bool t.neg, .slice pl t.limbs.length cl, .string t.str, .int .i64 t.num, .slice pk t.kids.length ck] 29))) := (Below.refl w.heap.size w).alloc (Nat.le_refl _) _
  have HST : Hid (PlSt W0 w H tl H.length (.slice none 0 0) (w.alloc (.cells #[.int .i64 t.kind, .bool t.neg, .slice pl t.limbs.length cl, .string t.str, .int .i64 t.num, .slice pk t.kids.length ck] 29))) :=
    ⟨[], H, [], _, _, _, _, _, _, rfl, rfl, rfl, World.ownsRow_nil _ _ _ _, fun p hp => by simp at hp, Bt.new w t.kind t.neg (.slice pl t.limbs.length cl) t.str t.num (.slice pk t.kids.length ck) ⟨_, _, _, rfl⟩ ⟨_, _, _, rfl⟩, by rw [← htt]; exact h0, HB.out⟩
  have HW : Hid (Below W0.heap.size W0 w) := hW
  have HR : Hid (RB w W0.heap.size v l) := hR
  have HOK : Hid (∀ t ∈ H ++ [tl], ∃ d, okD t d) := hok
  have hsW := hW.size
  clear ht h0 hls hk htt hW hR hok
  simp only [tmV]
  go_enter Tryd.func76, Tryd.ntmps76
  go_wp2_with fail
  have hst := HST.out
  go_loopg [5] H.length (fun q sv wr => PlSt W0 w H tl q sv wr)
  case atStart => exact hst
  case round =>
    clear hst HST HB
    obtain ⟨D, R, ps, k, nn, sl, S, N, sk, hDR, hRq, hpD, hWt, hps, hBt, hI, hB⟩ := hrel
    have hpl : ps.length ≤ 300000 := by
      have h1 := congrArg List.length hpD
      have h2 := congrArg List.length hDR
      simp at h1 h2
      omega
    have hpi : (ps.length : Int) ≤ 300000 := by omega
    have hsl : ∃ p c, u5 = .slice p ps.length c := by
      rcases hWt.2 with ⟨h1, h2⟩ | ⟨g, cap, cur, h1, _⟩
      · exact ⟨none, 0, by rw [h1, h2]⟩
      · exact ⟨_, _, h1⟩
    obtain ⟨po, co, rfl⟩ := hsl
    obtain ⟨sl', sk', ev, hl', hk', -⟩ := hI.open
    obtain ⟨rfl, rfl, rfl, rfl, rfl, rfl⟩ := tmV_one ev
    obtain ⟨pl', cl', rfl⟩ := hl'.shape
    obtain ⟨pk', ck', rfl, hck1, hck2, -⟩ := hk'.shape
    obtain ⟨a0, a1, a2, a3, a4, a5⟩ := hBt.cells
    obtain ⟨f0, f1, f2, f3, f4, f5⟩ := hBt.froz
    cases R with
    | nil =>
      have hD : D = H := by rw [← hDR]; simp
      subst hD
      have HPN : Hid (ps.length = D.length) := by show ps.length = D.length; have := congrArg List.length hpD; simpa using this
      have e4 : (tl.kind == 4) = false := by simp [h4]
      have hkk : (listT [] tl).kind = tl.kind := rfl
      rw [hkk] at a0
      have hRB : RB wr W0.heap.size v l := HR.out.under hB
      have hWr : Below W0.heap.size W0 wr := HW.out.trans (hB.mono hsW)
      have hsr := hB.size
      have hnw : ∀ j u, (bv [108])[j]? = some u → (wr.alloc (.cells #[.int .u8 108] 5)).cell? ((⟨wr.heap.size, 0, none⟩ : Addr).add j) = some u := new_cells wr (bv [108]) _
      have HWT : Hid (WaitT wr (w.heap.size + 1) (.slice po ps.length co) ps) := hWt
      have HBT : Hid (Bt wr w.heap.size tl.kind tl.neg (.slice pl' tl.limbs.length cl') tl.str tl.num (.slice pk' tl.kids.length ck')) := hBt
      have HI : Hid (IsT W0 tl (tmV tl.kind tl.neg (.slice pl' tl.limbs.length cl') tl.str tl.num (.slice pk' tl.kids.length ck'))) := hI
      have HPS : Hid (∀ p ∈ ps, IsT W0 p.2 p.1) := hps
      have HWr : Hid (Below W0.heap.size W0 wr) := hWr
      have HBr : Hid (Below w.heap.size w wr) := hB
      have HPD : Hid (ps.map Prod.snd = D) := hpD
      clear hWt hBt hI hps hWr hB hl' hk' hDR hRq hpD
      go_wp2_with (first
        | (at_builtin; refine wpList_append_rb rfl _ _ rfl W0.heap.size _ l rfl (hRB.under ((Below.refl _ _).alloc (Nat.le_refl _) _)) (by omega) (by simp; omega) ⟨wr.heap.size, 0, none⟩ 1 1 [108] rfl (by omega) (by omega) rfl hnw ?_; intro v2 w2 o2 g2 k2)
        | fail)
      have hW2 := g2 _ _ (by simp; omega) (Nat.le_refl _) (HWr.out.alloc (by omega) _)
      refine (putFour_any W0.heap.size v2 (l ++ [108]) (ps.length : Int) w2 o2 (by simp; omega) (by omega) (by omega) hW2.size).mono ?_
      rintro e w3 ⟨v3, rfl, o3, g3⟩
      have k3 : Keep wr w3 := ((Keep.alloc _ _).trans k2).trans (Keep.row o2 g3)
      have hW3 : Below W0.heap.size W0 w3 := OB.belowG o2 hW2 g3 hW2.size (Nat.le_refl _)
      have hs3 := k3.1
      have hWT3 := HWT.out.keep k3
      obtain ⟨d0, d1, d2, d3, d4, d5⟩ := (HBT.out.keep k3).cells
      have HO3 : Hid (OB w3 W0.heap.size v3 (l ++ [108] ++ four (u32of (ps.length : Int)))) := o3
      have HW3 : Hid (Below W0.heap.size W0 w3) := hW3
      have HK3 : Hid (Keep wr w3) := k3
      clear o2 g2 k2 o3 g3 hW2 hW3 k3 hnw hRB a0 a1 a2 a3 a4 a5 f0 f1 f2 f3 f4 f5
      go_wp2_with (first
        | (at_builtin; refine wpList_append_own_at _ rfl _ _ 27 rfl (w.heap.size + 1) 29 ti (.agg #[.int .i64 0, .bool false, .slice none 0 0, .string ⟨#[]⟩, .int .i64 0, .slice none 0 0]) 6 88 Tryd.underlying27 hi hz0 hz1 hz2 rfl (by decide) (.slice po ps.length co) ps.length (flat ps) rfl (World.ownsRow.alloc hWT3 _) ⟨w3.heap.size, 0, none⟩ 1 1 [.int .i64 tl.kind, .bool tl.neg, .slice pl' tl.limbs.length cl', .string tl.str, .int .i64 tl.num, .slice pk' tl.kids.length ck'] rfl rfl (World.news_of_block (heap_alloc_new w3 _)) (fun u hu => by simp at hu; rcases hu with rfl | rfl | rfl | rfl | rfl | rfl <;> rfl) (by simp only [maxLen]; omega) (by omega) (by simp; omega) ?_; intro v5 w5 hown5 hgr5 hnil5 hloc5)
        | fail)
      have hWT5 : WaitT w5 (w.heap.size + 1) v5 (ps ++ [(tmV tl.kind tl.neg (.slice pl' tl.limbs.length cl') tl.str tl.num (.slice pk' tl.kids.length ck'), tl)]) := by
        unfold WaitT
        rw [flat_app, List.length_append]
        simpa [flat, cells6, tmV] using hown5
      have hrd : RdT W0 w5 v5 (D ++ [tl]) := by
        have := row_rd (W0 := W0) hWT5 (fun p hp => by
          rcases List.mem_append.1 hp with hp | hp
          · exact HPS.out p hp
          · simp only [List.mem_singleton] at hp
            subst hp
            exact HI.out)
        rwa [List.map_append, HPD.out] at this
      have hbl : ∀ j, (Value.slice po ps.length co).ownBlock = some j → w.heap.size + 1 ≤ j := fun j hj => (World.ownsRow.lt hWT3 j hj).1
      have hW5 : Below W0.heap.size W0 w5 := (HW3.out.alloc HW3.out.size _).grown hgr5 (by have := HW3.out.size; simp; omega) (fun j hj => by have := hbl j hj; omega)
      have hB5 : Below w.heap.size w3 w5 := ((Below.refl w.heap.size w3).alloc (by omega) _).grown hgr5 (by simp; omega) (fun j hj => by have := hbl j hj; omega)
      have o5 : OB w5 W0.heap.size v3 (l ++ [108] ++ four (u32of (ps.length : Int))) := (HO3.out.under ((Below.refl _ _).alloc (Nat.le_refl _) _)).grown hgr5 (HO3.out.notT hWT3)
      have k5 : Keep w w5 := ((Keep.below HBr.out).trans HK3.out).then hB5 hB5.size
      refine (HA.out (D ++ [tl]) W0 w5 v3 v5 (l ++ [108] ++ four (u32of (ps.length : Int))) hn hW5 (.inl o5) hrd HOK.out (by simp [four]; omega)).mono ?_
      rintro e w6 ⟨v6, rfl, r6, o6, -, l6, b6, k6⟩
      have HO6 : Hid (OB w6 W0.heap.size v6 (l ++ [108] ++ four (u32of (ps.length : Int)) ++ putK (D ++ [tl]))) := o6 (by simp)
      have HF : Hid (Below W0.heap.size W0 w6 ∧ Keep w w6) := ⟨b6, k5.trans k6⟩
      clear r6 o6 b6 k6 k5 o5 hB5 hW5 hrd hWT5 hgr5 hown5 hloc5 hnil5
      go_wp2_with fail
      go_ret
      refine ⟨v6, rfl, ?_, l6, HF.out.1, HF.out.2⟩
      have e1 : u32of (ps.length : Int) = D.length := by have := HPN.out; unfold u32of; omega
      have := HO6.out
      rw [e1] at this
      simpa using this
    | cons x R =>
      have hkl : (listT (x :: R) tl).kids.length = 2 := rfl
      have hkd : (listT (x :: R) tl).kind = 4 := rfl
      rw [hkl] at a5 hck1 hk'
      rw [hkd] at a0
      replace hk' : Ts W0 (.slice pk' 2 ck') [x, listT R tl] := hk'
      obtain ⟨bb, off, vx, rfl, hlt, h6, hx⟩ := hk'.at 0 (by simp)
      obtain ⟨bb2, off2, vy, e2, hlt2, g6, hy⟩ := hk'.at 1 (by simp)
      simp only [Option.some.injEq, Addr.mk.injEq, and_true] at e2
      obtain ⟨rfl, rfl⟩ := e2
      simp only [List.getElem_cons_zero, List.getElem_cons_succ, Nat.zero_mul, Nat.add_zero, Nat.one_mul] at h6 hx g6 hy
      have HX : Hid (IsT W0 x vx) := hx
      have HY : Hid (IsT W0 (listT R tl) vy) := hy
      obtain ⟨slx, skx, evx, hlx, hkx, -⟩ := hx.open
      obtain ⟨sly, sky, evy, hly, hky, -⟩ := hy.open
      obtain ⟨plx, clx, rfl⟩ := hlx.shape
      obtain ⟨pkx, ckx, rfl, -⟩ := hkx.shape
      obtain ⟨ply, cly, rfl⟩ := hly.shape
      obtain ⟨pky, cky, rfl, -⟩ := hky.shape
      have hW0r : Below W0.heap.size W0 wr := HW.out.trans (hB.mono hsW)
      obtain ⟨c0, c1, c2, c3, c4, c5, hvx, x0, x1, x2, x3, x4, x5⟩ := h6.below hW0r hlt
      have HG6 : Hid (At6 W0 bb (off + 6) vy) := g6
      rw [evx] at hvx HX
      rw [evy] at HY HG6
      simp only [tmV, Value.agg.injEq, List.toArray_inj, List.cons.injEq, and_true] at hvx
      obtain ⟨rfl, rfl, rfl, rfl, rfl, rfl⟩ := hvx
      clear hx hy h6 g6 evx evy hlx hly hkx hky
      have HBT : Hid (Bt wr w.heap.size 4 false (.slice pl' ([] : List Int).length cl') ⟨#[]⟩ 0 (.slice (some ⟨bb, off, none⟩) 2 ck')) := hBt
      have HWt : Hid (WaitT wr (w.heap.size + 1) (.slice po ps.length co) ps) := hWt
      have HPS : Hid (∀ p ∈ ps, IsT W0 p.2 p.1) := hps
      have hsz := hBt.lt
      have hBs := hB.size
      have HB : Hid (Below w.heap.size w wr) := hB
      clear hps hW0r
      go_wp2_with (first | (at_builtin; refine wpList_append_own_at _ rfl _ _ 27 rfl (w.heap.size + 1) 29 ti (.agg #[.int .i64 0, .bool false, .slice none 0 0, .string ⟨#[]⟩, .int .i64 0, .slice none 0 0]) 6 88 Tryd.underlying27 hi hz0 hz1 hz2 rfl (by decide) (.slice po ps.length co) ps.length (flat ps) rfl (World.ownsRow.alloc hWt _) ⟨wr.heap.size, 0, none⟩ 1 1 [.int .i64 x.kind, .bool x.neg, .slice plx x.limbs.length clx, .string x.str, .int .i64 x.num, .slice pkx x.kids.length ckx] rfl rfl (World.news_of_block (heap_alloc_new wr _)) (fun u hu => by simp at hu; rcases hu with rfl | rfl | rfl | rfl | rfl | rfl <;> rfl) (by simp only [maxLen]; omega) (by omega) (by simp; omega) ?_; intro v5 w5 hown5 hgr5 hnil5 hloc5; have hQ := part_facts HB.out HBT.out HWt.out hgr5; obtain ⟨q0, q1, q2, q3, q4, q5⟩ := hQ.1.cells; obtain ⟨r0, r1, r2, r3, r4, r5⟩ := hQ.1.froz; obtain ⟨d0, d1, d2, d3, d4, d5, hvy, y0, y1, y2, y3, y4, y5⟩ := HG6.out.below (HW.out.trans (hQ.2.mono hsW)) hlt2; simp only [tmV, Value.agg.injEq, List.toArray_inj, List.cons.injEq, and_true] at hvy; obtain ⟨rfl, rfl, rfl, rfl, rfl, rfl⟩ := hvy; have HQ : Hid (Bt w5 w.heap.size 4 false (.slice pl' ([] : List Int).length cl') ⟨#[]⟩ 0 (.slice (some ⟨bb, off, none⟩) 2 ck') ∧ Below w.heap.size w w5) := hQ; clear hQ) | fail)
      have hbu := setBt_but w5 w.heap.size (listT R tl).kind (listT R tl).neg (.slice ply (listT R tl).limbs.length cly) (listT R tl).str (listT R tl).num (.slice pky (listT R tl).kids.length cky)
      go_roundg R.length
      case measure => simp at hRq; omega
      case rel =>
        refine ⟨D ++ [x], R, ps ++ [(tmV x.kind x.neg (.slice plx x.limbs.length clx) x.str x.num (.slice pkx x.kids.length ckx), x)], _, _, _, _, _, _, by rw [← hDR]; simp, rfl, by rw [List.map_append, hpD]; rfl, ?_, ?_, HQ.out.1.set (listT R tl).kind (listT R tl).neg (.slice ply (listT R tl).limbs.length cly) (listT R tl).str (listT R tl).num (.slice pky (listT R tl).kids.length cky) ⟨_, _, _, rfl⟩ ⟨_, _, _, rfl⟩, HY.out, HQ.out.2.trans (hbu.below (Nat.le_refl _))⟩
        · refine World.ownsRow.kept (row := some w.heap.size) (w := w5) ?_ ⟨hbu.os, hbu.tape, hbu.output, Nat.le_of_eq hbu.size.symm, fun j _ hj => hbu.block j (fun e => hj (by rw [e]))⟩ (Or.inr (fun e => by have := (World.ownsRow.lt hown5 _ e).1; omega))
          rw [flat_app, List.length_append]
          simpa [flat, cells6, tmV] using hown5
        · intro p hp
          rcases List.mem_append.1 hp with hp | hp
          · exact HPS.out p hp
          · simp only [List.mem_singleton] at hp
            subst hp
            exact HX.out
end Go.Proofs.YtbmondbicnfcpaaDoor


/-
  ext: putAll, Put.
-/
namespace Go.Proofs.YtbmondbicnfcpaaDoor
open Go.RowKit
set_option linter.unusedVariables false
set_option linter.unusedSimpArgs false

theorem alone_kind {t : Tm} (h : t.alone = true) : t.kind = 1 ∨ t.kind = 2 ∨ t.kind = 3 ∨ t.kind = 4 ∨ t.kind = 5 ∨ t.kind = 6 := by
  unfold Tm.alone aloneK at h
  by_cases h1 : t.kind = 1
  · exact .inl h1
  by_cases h2 : t.kind = 2
  · exact .inr (.inl h2)
  by_cases h3 : t.kind = 3
  · exact .inr (.inr (.inl h3))
  by_cases h4 : t.kind = 4
  · exact .inr (.inr (.inr (.inl h4)))
  by_cases h5 : t.kind = 5
  · exact .inr (.inr (.inr (.inr (.inl h5))))
  by_cases h6 : t.kind = 6
  · exact .inr (.inr (.inr (.inr (.inr h6))))
  rw [if_neg h1, if_neg h2, if_neg h3, if_neg h4, if_neg h5, if_neg h6] at h
  cases h
theorem alone_1 {t : Tm} (h : t.alone = true) (hk : t.kind = 1) : Good t.neg t.limbs := by
  unfold Tm.alone aloneK at h
  rw [if_pos hk, Bool.and_eq_true] at h
  exact (goodB_iff _ _).1 h.1
theorem alone_2 {t : Tm} (h : t.alone = true) (hk : t.kind = 2) : 1 ≤ t.str.size ∧ t.str.size ≤ 40 := by
  unfold Tm.alone aloneK at h
  rw [if_neg (by omega), if_pos hk, Bool.and_eq_true] at h
  have := h.1
  simp [nameB] at this
  exact this.1
theorem alone_5 {t : Tm} (h : t.alone = true) (hk : t.kind = 5) : t.kids.length ≤ 40 := by
  unfold Tm.alone aloneK at h
  rw [if_neg (by omega), if_neg (by omega), if_neg (by omega), if_neg (by omega), if_pos hk, Bool.and_eq_true] at h
  simpa using h.1
theorem alone_6 {t : Tm} (h : t.alone = true) (hk : t.kind = 6) : t.str.size ≤ 400 := by
  unfold Tm.alone aloneK at h
  rw [if_neg (by omega), if_neg (by omega), if_neg (by omega), if_neg (by omega), if_neg (by omega), if_pos hk, Bool.and_eq_true] at h
  simpa using h.1

theorem step_app_rb {ops : Array Oper} {o : Oper} {a : Act} {w : World} {K : Act → World → Prop} {Q : Exit → Act → World → Prop} {E : Prop}
    (hgd : o.guard = none) (s x : Operand) (ho : o.op = .call { callee := .builtin .append, args := #[s, x], argTypes := #[35, 35] }) (base : Nat) (v : Value) (l : List UInt8) (hs : a.eval s = v) (h : RB w base v l) (hl : l.length ≤ 1000000000) (hb : base ≤ w.heap.size)
    (ad : Addr) (m c : Nat) (news : List UInt8) (hx : a.eval x = .slice (some ad) m c) (h0 : 0 < m) (hm : m ≤ 1000000000) (hn : news.length = m) (hc : ∀ j u, (bv news)[j]? = some u → w.cell? (ad.add j) = some u)
    (hK : ∀ v' w', OB w' base v' (l ++ news) → (∀ B W, B ≤ w.heap.size → B ≤ base → Below B W w → Below B W w') → Keep w w' → K (a.put o.dst v') w') :
    if Region.wanted o (yielded ops a.tmps) = true then Oper.wp Tryd.prog o a w K Q else E := by
  have hw : Region.wanted o (yielded ops a.tmps) = true := by simp [Region.wanted, hgd]
  rw [if_pos hw]
  obtain ⟨v', w', hr, h1, h2, h3⟩ := run_append_rb w base o.type v l h hl hb ad m c news h0 hm hn hc
  unfold Oper.wp
  simp [execOp, ho, resolve, invoke, builtin, hs, hx, hr, Result.andThen]
  exact hK v' w' h1 h2 h3

set_option maxRecDepth 100000 in
/-- A text's bytes behind a row of the call's own. -/
theorem wpList_append_obs {w : World} {ops : Array Oper} {rest : List Oper} {o : Oper} {a : Act} {Q : Exit → Act → World → Prop} (hgd : o.guard = none) (s x : Operand)
    (ho : o.op = .call { callee := .builtin .append, args := #[s, x], argTypes := #[35, 9] }) (base : Nat) (v : Value) (l : List UInt8) (hs : a.eval s = v) (h : OB w base v l) (S : ByteArray) (hx : a.eval x = .string S) (hl : l.length + S.size ≤ 1000000000) (hb : base ≤ w.heap.size)
    (hK : ∀ v' w', OB w' base v' (l ++ S.data.toList) → (∀ B W, B ≤ w.heap.size → B ≤ base → Below B W w → Below B W w') → Keep w w' → wpList Tryd.prog ops Q rest (a.put o.dst v') w') : wpList Tryd.prog ops Q (o :: rest) a w := by
  obtain ⟨i, hi, hz0, hz1, hz2⟩ := info_parts Tryd.infoB
  obtain ⟨v', w', hr, h1, h2, _⟩ := Lib.run_append_own_string (P := Tryd.prog) w base 35 9 o.type 5 i Tryd.underlying35 Tryd.underlying9 hi hz0 hz1 hz2 v l.length (bv l) h S (by unfold maxLen; omega) (by omega) hb
  refine wpList_plain hgd fun K hK' => ?_
  unfold Oper.wp
  simp [execOp, ho, resolve, invoke, builtin, hs, hx, hr, Result.andThen]
  exact hK' _ _ (hK v' w' (OB.more (m := S.data.toList) (by rw [← bv_str]; exact h1) (by rw [Array.length_toList]; rfl)) (fun B W h4 h5 h6 => OB.belowG h h6 h2 h4 h5) (Keep.row h h2))

/-- The loop's state. -/
def PaSt (W0 w : World) (v0 : Value) (l : List UInt8) (K : List Tm) (k : Nat) (v : Value) (wr : World) : Prop :=
  (k = 0 → v = v0 ∧ wr = w) ∧ RB wr W0.heap.size v (l ++ putK (K.take k)) ∧ (0 < k → OB wr W0.heap.size v (l ++ putK (K.take k))) ∧ (putK (K.take k)).length ≤ 410 * nodesL (K.take k) ∧ Below W0.heap.size W0 wr ∧ Keep w wr
theorem nodes_take1 (K : List Tm) (k : Nat) (h : k < K.length) : nodesL (K.take (k + 1)) = nodesL (K.take k) + K[k].nodes := by
  rw [List.take_succ_eq_append_getElem h, nodesL_app]
  simp [nodesL]
theorem PaSt.step {W0 w wr w' : World} {l L : List UInt8} {K : List Tm} {k : Nat} {v0 v v' : Value} (h : PaSt W0 w v0 l K k v wr) (hk : k < K.length) (ho : OB w' W0.heap.size v' (l ++ putK (K.take k) ++ L)) (hL : L = putT K[k]) (hn : L.length ≤ 410 * K[k].nodes) (hW : Below W0.heap.size W0 w') (kp : Keep wr w') :
    PaSt W0 w v0 l K (k + 1) v' w' := by
  obtain ⟨-, h1, h2, h3, h4, h5⟩ := h
  have e : l ++ putK (K.take (k + 1)) = l ++ putK (K.take k) ++ L := by rw [putK_take K k hk, hL, List.append_assoc]
  refine ⟨fun h => absurd h (by omega), by rw [e]; exact .inl ho, fun _ => by rw [e]; exact ho, ?_, hW, h5.trans kp⟩
  rw [putK_take K k hk, nodes_take1 K k hk, List.length_append, ← hL]
  omega

set_option maxRecDepth 100000 in
set_option maxHeartbeats 8000000 in
theorem putAll_step (n : Nat) (HA : Hid (PutUpto n)) : PutUpto (n + 1) := by
  intro K W0 w v vs l hn hW hR hRd hok hl
  obtain ⟨a, cap, rfl, hc1, hc2, hc3⟩ := hRd.shape
  have hKl : K.length ≤ 300000 := by have := len_nodes K; omega
  have HW : Hid (Below W0.heap.size W0 w) := hW
  have HRd : Hid (RdT W0 w (.slice a K.length cap) K) := hRd
  have HOK : Hid (∀ t ∈ K, ∃ d, okD t d) := hok
  have HST : Hid (PaSt W0 w v l K 0 v w) := ⟨fun _ => ⟨rfl, rfl⟩, by simpa [putK] using hR, fun h => absurd h (by omega), by simp [putK], hW, Keep.refl w⟩
  clear hW hR hRd hok
  obtain ⟨i0, hi, hz0, hz1, hz2⟩ := info_parts Tryd.infoB
  go_enter Tryd.func43, Tryd.ntmps43
  go_wp2_with fail
  go_loopg [0, 9] K.length (fun gk s0 s9 wr => ∃ k : Nat, k + gk = K.length ∧ s9 = .int .i64 (k : Int) ∧ Hid (PaSt W0 w v l K k s0 wr))
  case atStart => exact ⟨0, by omega, rfl, HST⟩
  case round =>
    obtain ⟨k, hk, rfl, hst⟩ := hrel
    clear HST
    cases gk with
    | zero =>
      obtain rfl : k = K.length := by omega
      go_wp2_with fail
      go_ret
      obtain ⟨h0, h1, h2, h3, h4, h5⟩ := hst.out
      rw [List.take_length] at h1 h2 h3
      exact ⟨_, rfl, h1, h2, h0, h3, h4, h5⟩
    | succ g =>
      have hkK : k < K.length := by omega
      obtain ⟨b, off, u, rfl, h6, hu⟩ := (HRd.out.keep HW.out hst.out.2.2.2.2.1 hst.out.2.2.2.2.2).at k hkK
      obtain ⟨d, hd⟩ := HOK.out K[k] (List.getElem_mem hkK)
      have hnk := nodes_take1 K k hkK
      have hnt := nodes_take K (k + 1)
      have hl3 := hst.out.2.2.2.1
      have hnp := nodes_pos K[k]
      have hne := Tm.nodes_eq K[k]
      obtain ⟨t, htd⟩ : ∃ t, t = K[k] := ⟨_, rfl⟩
      rw [← htd] at hu hd hnk hnp hne
      obtain ⟨sl, sk, rfl, hls, hks, -, -, hS⟩ := hu.open
      obtain ⟨pl, cl, rfl⟩ := hls.shape
      obtain ⟨pk, ck, rfl, hk1, hk2, hk3⟩ := hks.shape
      obtain ⟨c0, c1, c2, c3, c4, c5, hv, x0, x1, x2, x3, x4, x5⟩ := h6
      simp only [tmV, Value.agg.injEq, List.toArray_inj, List.cons.injEq, and_true] at hv
      obtain ⟨rfl, rfl, rfl, rfl, rfl, rfl⟩ := hv
      have hkn : (k : Int) < (K.length : Int) := by omega
      obtain ⟨ls, hlsd⟩ : ∃ ls, ls = l ++ putK (K.take k) := ⟨_, rfl⟩
      have hll : ls.length ≤ 90000000 := by rw [hlsd, List.length_append]; omega
      have hRr : RB wr W0.heap.size u0 ls := by rw [hlsd]; exact hst.out.2.1
      have hWr : Below W0.heap.size W0 wr := hst.out.2.2.2.2.1
      have HLS : Hid (ls = l ++ putK (K.take k)) := hlsd
      have HT : Hid (t = K[k]) := htd
      have hnK : nodesL (K.take k) + t.nodes ≤ n ∧ ls.length + 410 * t.nodes ≤ 90000000 := by
        rw [hlsd, List.length_append]; omega
      obtain ⟨hnK1, hnK2⟩ := hnK
      have HD : Hid (okD t d) := hd
      have HU : Hid (IsT W0 t (tmV t.kind t.neg (.slice pl t.limbs.length cl) t.str t.num (.slice pk t.kids.length ck))) := hu
      have HLs : Hid (Sl W0 (.slice pl t.limbs.length cl) t.limbs) := hls
      have HKs : Hid (Ts W0 (.slice pk t.kids.length ck) t.kids) := hks
      obtain ⟨wA, hwA⟩ : ∃ wA, wr.alloc (.cells #[.int .i64 t.kind, .bool t.neg, .slice pl t.limbs.length cl, .string t.str, .int .i64 t.num, .slice pk t.kids.length ck] 29) = wA := ⟨_, rfl⟩
      have hBt : Bt wA wr.heap.size t.kind t.neg (.slice pl t.limbs.length cl) t.str t.num (.slice pk t.kids.length ck) := by rw [← hwA]; exact Bt.new wr _ _ _ _ _ _ ⟨_, _, _, rfl⟩ ⟨_, _, _, rfl⟩
      have hBA : Below wr.heap.size wr wA := by rw [← hwA]; exact (Below.refl _ _).alloc (Nat.le_refl _) _
      have hRA : RB wA W0.heap.size u0 ls := hRr.under hBA
      have hWA : Below W0.heap.size W0 wA := hWr.trans (hBA.mono hWr.size)
      have hsA := hWA.size
      have HKA : Hid (Keep wr wA) := Keep.below hBA
      have HBt : Hid (Bt wA wr.heap.size t.kind t.neg (.slice pl t.limbs.length cl) t.str t.num (.slice pk t.kids.length ck)) := hBt
      have HRA : Hid (RB wA W0.heap.size u0 ls) := hRA
      have HWA : Hid (Below W0.heap.size W0 wA) := hWA
      obtain ⟨a0, a1, a2, a3, a4, a5⟩ := hBt.cells
      have hkd := alone_kind hd.alone
      clear hu hls hks hd hlsd htd hRr hWr hBt hBA hRA hWA hnt hl3 hnk
      have hKid : ∀ j, j < t.kids.length → True := fun _ _ => trivial
      rcases hkd with h1 | h2 | h3 | h4 | h5 | h6
      · have HG : Hid (IsN W0 (.agg #[.bool t.neg, .slice pl t.limbs.length cl]) (Z t.neg (V t.limbs))) := ⟨t.neg, t.limbs, ⟨_, rfl, HLs.out⟩, alone_1 HD.out.alone h1, rfl⟩
        have HP : Hid (intL (Z t.neg (V t.limbs)) = putT K[k]) := by rw [← HT.out]; exact (putT_1 h1).symm
        have q1 : (t.kind == 1) = true := by simp [h1]
        clear h1
        go_wp2_with fail
        refine (putInt_any W0 u0 _ ls _ wA HWA.out HRA.out HG.out (by omega)).mono ?_
        rintro e w2 ⟨v2, L, rfl, o2, hL, hW2, k2⟩
        have HN : Hid (PaSt W0 w v l K (k + 1) v2 w2) := hst.out.step hkK (by rw [← HLS.out]; exact o2) (by rw [hL.eq.1]; exact HP.out) (by have := hL.eq.2; rw [← HT.out]; omega) hW2 (HKA.out.trans k2)
        clear o2 hL hW2 k2
        go_wp2_with fail
        go_roundg g
        case measure => omega
        case rel => exact ⟨k + 1, by omega, by go_num, HN⟩
      · have hsz := alone_2 HD.out.alone h2
        obtain ⟨hs1, hs2⟩ := hsz
        have HP : Hid (119 :: UInt8.ofNat t.str.size :: t.str.data.toList = putT K[k]) := by rw [← HT.out]; exact (putT_2 h2).symm
        have q1 : (t.kind == 1) = false := by simp [h2]
        have q2 : (t.kind == 2) = true := by simp [h2]
        have hs3 : (t.str.size : Int) ≤ 40 := by omega
        have hnw : ∀ j u, (bv [119, UInt8.ofNat t.str.size])[j]? = some u → (wA.alloc (.cells #[.int .u8 119, .int .u8 (t.str.size : Int)] 5)).cell? ((⟨wA.heap.size, 0, none⟩ : Addr).add j) = some u := by
          have e : bv [119, UInt8.ofNat t.str.size] = [.int .u8 119, .int .u8 (t.str.size : Int)] := by
            simp only [bv, List.map_cons, List.map_nil, u8n]
            congr 2
            congr 1
            omega
          rw [e]
          exact new_cells wA _ _
        have HNW : Hid _ := hnw
        clear h2 hnw
        go_wp2_with (first
          | (at_builtin; refine wpList_append_rb rfl _ _ rfl W0.heap.size _ ls rfl (HRA.out.under ((Below.refl _ _).alloc (Nat.le_refl _) _)) (by omega) (by simp; omega) ⟨wA.heap.size, 0, none⟩ 2 2 [119, UInt8.ofNat t.str.size] rfl (by omega) (by omega) rfl HNW.out ?_; intro v2 w2 o2 g2 k2; obtain ⟨b0, b1, b2, b3, b4, b5⟩ := ((HBt.out.keep (Keep.alloc _ _)).keep k2).cells; have hs2w : W0.heap.size ≤ w2.heap.size := Nat.le_trans (Nat.le_trans hsA (Keep.alloc _ _).1) k2.1; have HW2 : Hid (Below W0.heap.size W0 w2) := g2 _ _ (by simp; omega) (Nat.le_refl _) (HWA.out.alloc hsA _); have HK2 : Hid (Keep wA w2) := (Keep.alloc _ _).trans k2; clear g2 k2)
          | (at_builtin; refine wpList_append_obs rfl _ _ rfl W0.heap.size _ _ rfl o2 t.str rfl (by simp; omega) hs2w ?_; intro v3 w3 o3 g3 k3)
          | fail)
        have HN : Hid (PaSt W0 w v l K (k + 1) v3 w3) := hst.out.step hkK (by rw [← HLS.out, ← HP.out]; simpa using o3) rfl (by rw [← HP.out, ← HT.out, List.length_cons, List.length_cons, show t.str.data.toList.length = t.str.size from Array.length_toList]; omega) (g3 _ _ hs2w (Nat.le_refl _) HW2.out) ((HKA.out.trans HK2.out).trans k3)
        clear o2 o3 g3 k3
        go_wp2_with fail
        go_roundg g
        case measure => omega
        case rel => exact ⟨k + 1, by omega, by go_num, HN⟩
      · have HP : Hid ([106] = putT K[k]) := by rw [← HT.out]; exact (putT_3 h3).symm
        have q1 : (t.kind == 1) = false := by simp [h3]
        have q2 : (t.kind == 2) = false := by simp [h3]
        have q3 : (t.kind == 3) = true := by simp [h3]
        have HNW : Hid (∀ j u, (bv [106])[j]? = some u → (wA.alloc (.cells #[.int .u8 106] 5)).cell? ((⟨wA.heap.size, 0, none⟩ : Addr).add j) = some u) := new_cells wA (bv [106]) _
        clear h3
        go_wp2_with (first
          | (at_builtin; refine wpList_append_rb rfl _ _ rfl W0.heap.size _ ls rfl (HRA.out.under ((Below.refl _ _).alloc (Nat.le_refl _) _)) (by omega) (by simp; omega) ⟨wA.heap.size, 0, none⟩ 1 1 [106] rfl (by omega) (by omega) rfl HNW.out ?_; intro v2 w2 o2 g2 k2)
          | fail)
        have HN : Hid (PaSt W0 w v l K (k + 1) v2 w2) := hst.out.step hkK (by rw [← HLS.out, ← HP.out]; exact o2) rfl (by rw [← HP.out, ← HT.out]; simp; omega) (g2 _ _ (by simp; omega) (Nat.le_refl _) (HWA.out.alloc hsA _)) ((HKA.out.trans (Keep.alloc _ _)).trans k2)
        clear o2 g2 k2
        go_wp2_with fail
        go_roundg g
        case measure => omega
        case rel => exact ⟨k + 1, by omega, by go_num, HN⟩
      · have HSP := okD_split t.nodes t d (Nat.le_refl _) HD.out
        obtain ⟨H, tl, hH, htl, hH0⟩ := HSP
        have hH0 := hH0 h4
        have hnl := nodes_list tl H
        rw [← hH] at hnl
        have hna : nodesL (H ++ [tl]) + H.length = t.nodes := by rw [nodesL_app]; simp [nodesL]; omega
        have HP : Hid (108 :: (four H.length ++ putK (H ++ [tl])) = putT K[k]) := by rw [← HT.out, hH]; exact (putT_list tl htl H hH0).symm
        have HDL : Hid (∀ t ∈ H ++ [tl], ∃ d, okD t d) := by
          have h := HD.out
          rw [hH] at h
          obtain ⟨h1, h2⟩ := (okD_list tl d H).1 h
          intro t ht
          rcases List.mem_append.1 ht with ht | ht
          · exact ⟨_, h1 t ht⟩
          · simp only [List.mem_singleton] at ht
            subst ht
            exact ⟨_, h2⟩
        have HUL : Hid (IsT W0 (listT H tl) (tmV t.kind t.neg (.slice pl t.limbs.length cl) t.str t.num (.slice pk t.kids.length ck))) := by rw [← hH]; exact HU.out
        have q1 : (t.kind == 1) = false := by simp [h4]
        have q2 : (t.kind == 2) = false := by simp [h4]
        have q3 : (t.kind == 3) = false := by simp [h4]
        have q4 : (t.kind == 4) = true := by simp [h4]
        clear h4 hH hnl
        go_wp2_with fail
        refine (putList_of n HA H tl W0 wA u0 _ ls htl (by omega) HWA.out HRA.out HUL.out HDL.out (by omega)).mono ?_
        rintro e w2 ⟨v2, rfl, o2, l2, hW2, k2⟩
        have HN : Hid (PaSt W0 w v l K (k + 1) v2 w2) := hst.out.step hkK (by rw [← HLS.out, ← HP.out]; exact o2) rfl (by rw [← HP.out, ← HT.out]; simp [four]; omega) hW2 (HKA.out.trans k2)
        clear o2 hW2 k2
        go_wp2_with fail
        go_roundg g
        case measure => omega
        case rel => exact ⟨k + 1, by omega, by go_num, HN⟩
      · have hkz := alone_5 HD.out.alone h5
        have HP : Hid (104 :: UInt8.ofNat t.kids.length :: putK t.kids = putT K[k]) := by rw [← HT.out]; exact (putT_5 h5).symm
        have HDL : Hid (∀ x ∈ t.kids, ∃ d, okD x d) := fun x hx => ⟨_, HD.out.kid (by omega) x hx⟩
        have q1 : (t.kind == 1) = false := by simp [h5]
        have q2 : (t.kind == 2) = false := by simp [h5]
        have q3 : (t.kind == 3) = false := by simp [h5]
        have q4 : (t.kind == 4) = false := by simp [h5]
        have q5 : (t.kind == 5) = true := by simp [h5]
        have hk3 : (t.kids.length : Int) ≤ 40 := by omega
        have HNW : Hid (∀ j u, (bv [104, UInt8.ofNat t.kids.length])[j]? = some u → (wA.alloc (.cells #[.int .u8 104, .int .u8 (t.kids.length : Int)] 5)).cell? ((⟨wA.heap.size, 0, none⟩ : Addr).add j) = some u) := by
          have e : bv [104, UInt8.ofNat t.kids.length] = [.int .u8 104, .int .u8 (t.kids.length : Int)] := by
            simp only [bv, List.map_cons, List.map_nil, u8n]
            congr 2
            congr 1
            omega
          unfold Hid
          rw [e]
          exact new_cells wA _ _
        clear h5
        go_wp2_with (first
          | (at_builtin; refine wpList_append_rb rfl _ _ rfl W0.heap.size _ ls rfl (HRA.out.under ((Below.refl _ _).alloc (Nat.le_refl _) _)) (by omega) (by simp; omega) ⟨wA.heap.size, 0, none⟩ 2 2 [104, UInt8.ofNat t.kids.length] rfl (by omega) (by omega) rfl HNW.out ?_; intro v2 w2 o2 g2 k2; obtain ⟨b0, b1, b2, b3, b4, b5⟩ := ((HBt.out.keep (Keep.alloc _ _)).keep k2).cells; have HW2 : Hid (Below W0.heap.size W0 w2) := g2 _ _ (by simp; omega) (Nat.le_refl _) (HWA.out.alloc hsA _); have HK2 : Hid (Keep wA w2) := (Keep.alloc _ _).trans k2; have HO2 : Hid (OB w2 W0.heap.size v2 (ls ++ [104, UInt8.ofNat t.kids.length])) := o2; clear g2 k2 o2)
          | fail)
        refine (HA.out t.kids W0 w2 v2 _ (ls ++ [104, UInt8.ofNat t.kids.length]) (by omega) HW2.out (.inl HO2.out) (RdT.of HKs.out HW2.out) HDL.out (by simp; omega)).mono ?_
        rintro e w3 ⟨v3, rfl, r3, o3, z3, l3, hW3, k3⟩
        have hO3 : OB w3 W0.heap.size v3 (ls ++ [104, UInt8.ofNat t.kids.length] ++ putK t.kids) := by
          by_cases h0 : 0 < t.kids.length
          · exact o3 h0
          · obtain ⟨e1, e2⟩ := z3 (by omega)
            have e3 : t.kids = [] := List.eq_nil_of_length_eq_zero (by omega)
            rw [e1, e2, show putK t.kids = [] by rw [e3]; rfl, List.append_nil]
            exact HO2.out
        have HN : Hid (PaSt W0 w v l K (k + 1) v3 w3) := hst.out.step hkK (by rw [← HLS.out, ← HP.out]; simpa using hO3) rfl (by rw [← HP.out, ← HT.out]; simp; omega) hW3 ((HKA.out.trans HK2.out).trans k3)
        clear r3 o3 hW3 k3 hO3
        go_wp2_with fail
        go_roundg g
        case measure => omega
        case rel => exact ⟨k + 1, by omega, by go_num, HN⟩
      · have hkz := alone_6 HD.out.alone h6
        have HP : Hid (109 :: (four t.str.size ++ t.str.data.toList) = putT K[k]) := by rw [← HT.out]; exact (putT_6 h6).symm
        have q1 : (t.kind == 1) = false := by simp [h6]
        have q2 : (t.kind == 2) = false := by simp [h6]
        have q3 : (t.kind == 3) = false := by simp [h6]
        have q4 : (t.kind == 4) = false := by simp [h6]
        have q5 : (t.kind == 5) = false := by simp [h6]
        have q6 : (t.kind == 6) = true := by simp [h6]
        clear h6
        go_wp2_with fail
        have hs3 : (t.str.size : Int) ≤ 400 := by omega
        have bA := (Below.refl wA.drew.heap.size wA.drew).alloc (Nat.le_refl _) (.cells #[.int .u8 109] 5)
        have bD : Below wA.heap.size wA wA.drew := (Below.refl _ _).drew
        have hBd : Bt wA.drew wr.heap.size t.kind t.neg (.slice pl t.limbs.length cl) t.str t.num (.slice pk t.kids.length ck) := HBt.out.under bD
        have HBA : Hid (Bt (wA.drew.alloc (.cells #[.int .u8 109] 5)) wr.heap.size t.kind t.neg (.slice pl t.limbs.length cl) t.str t.num (.slice pk t.kids.length ck)) := hBd.under bA
        have HRd2 : Hid (RB (wA.drew.alloc (.cells #[.int .u8 109] 5)) W0.heap.size u0 ls) := (HRA.out.under bD).under bA
        have HNA : Hid (∀ j u, (bv [109])[j]? = some u → (wA.drew.alloc (.cells #[.int .u8 109] 5)).cell? ((⟨wA.drew.heap.size, 0, none⟩ : Addr).add j) = some u) := new_cells wA.drew (bv [109]) _
        have HWd : Hid (Below W0.heap.size W0 (wA.drew.alloc (.cells #[.int .u8 109] 5))) := HWA.out.drew.alloc (by exact hsA) _
        have HSd : Hid (W0.heap.size ≤ (wA.drew.alloc (.cells #[.int .u8 109] 5)).heap.size) := HWd.out.size
        have HKd : Hid (Keep wA (wA.drew.alloc (.cells #[.int .u8 109] 5))) := (Keep.below bD).trans (Keep.below bA)
        have bA0 := (Below.refl wA.heap.size wA).alloc (Nat.le_refl _) (.cells #[.int .u8 109] 5)
        obtain ⟨e0, e1, e2, e3, e4, e5⟩ := (HBt.out.under bA0).cells
        clear bA bD hBd bA0
        go_cut [0] from 59 to 65 (fun s0 wc => Hid (OB wc W0.heap.size s0 (ls ++ [109] ++ four (u32of (t.str.size : Int))) ∧ Below W0.heap.size W0 wc ∧ Keep wA wc))
        case first =>
          go_region_law (first
            | (refine step_app_rb rfl (.tmp 59) (.tmp 60) rfl W0.heap.size u0 ls (by simp [Act.eval, Act.put]) HRd2.out (by omega) HSd.out ⟨wA.drew.heap.size, 0, none⟩ 1 1 [109] (by simp [Act.eval, Act.put]) (by omega) (by omega) rfl HNA.out ?_; intro v2 w2 o2 g2 k2; have hW2 : Below W0.heap.size W0 w2 := g2 _ _ HSd.out (Nat.le_refl _) HWd.out; obtain ⟨b0, b1, b2, b3, b4, b5⟩ := (HBA.out.keep k2).cells)
            | (go_simp; go_at_call 77; refine (putFour_any W0.heap.size v2 (ls ++ [109]) (t.str.size : Int) w2 o2 (by simp; omega) (by omega) (by omega) hW2.size).mono ?_; rintro e w3 ⟨v3, rfl, o3, g3⟩))
          all_goals
            go_wp2_with fail
            go_meet
            case rel => exact ⟨o3, OB.belowG o2 hW2 g3 hW2.size (Nat.le_refl _), (HKd.out.trans k2).trans (Keep.row o2 g3)⟩
        case rest =>
          clear e0 e1 e2 e3 e4 e5
          obtain ⟨o3, hW3, k3⟩ := hcut.out
          obtain ⟨b0, b1, b2, b3, b4, b5⟩ := (HBt.out.keep k3).cells
          have HO3 : Hid (OB wc W0.heap.size u0 (ls ++ [109] ++ four (u32of (t.str.size : Int)))) := o3
          have hs3w := hW3.size
          have HW3 : Hid (Below W0.heap.size W0 wc ∧ Keep wA wc) := ⟨hW3, k3⟩
          clear o3 hW3 k3 hcut HRd2 HNA HWd HSd HKd HBA
          go_wp2_with (first
            | (at_builtin; refine wpList_append_obs rfl _ _ rfl W0.heap.size _ _ rfl HO3.out t.str rfl (by simp [four]; omega) hs3w ?_; intro v4 w4 o4 g4 k4)
            | fail)
          have HN : Hid (PaSt W0 w v l K (k + 1) v4 w4) := by
            have e1 : u32of (t.str.size : Int) = t.str.size := by unfold u32of; omega
            rw [e1] at o4
            exact hst.out.step hkK (by rw [← HLS.out, ← HP.out]; simpa using o4) rfl (by rw [← HP.out, ← HT.out, List.length_cons, List.length_append, show t.str.data.toList.length = t.str.size from Array.length_toList]; simp [four]; omega) (g4 _ _ hs3w (Nat.le_refl _) HW3.out.1) ((HKA.out.trans HW3.out.2).trans k4)
          clear o4 g4 k4
          go_wp2_with fail
          go_roundg g
          case measure => omega
          case rel => exact ⟨k + 1, by omega, by go_num, HN⟩
theorem putUpto : ∀ n, PutUpto n
  | 0 => fun K W0 w v vs l hn => absurd hn (by omega)
  | n + 1 => putAll_step n (putUpto n)
/-- putAll. -/
theorem putAll_any (K : List Tm) (W0 w : World) (v vs : Value) (l : List UInt8) (hW : Below W0.heap.size W0 w) (hR : RB w W0.heap.size v l) (hRd : RdT W0 w vs K) (hok : ∀ t ∈ K, ∃ d, okD t d) (hl : l.length + 410 * nodesL K ≤ 90000000) :
    Calls Tryd.prog 43 #[v, vs] w fun e w' => PutKPost W0 w v l K e w' := putUpto (nodesL K + 1) K W0 w v vs l (by omega) hW hR hRd hok hl

/-- What Put answers. -/
def putO (t : Tm) : List UInt8 := if t.ok = true then putT t else []
def PPost (w : World) (l : List UInt8) (t : Tm) (e : Ending) (w' : World) : Prop :=
  ∃ v', e = .returned v' ∧ RB w' w.heap.size v' (l ++ putO t) ∧ (putO t).length ≤ 820000 ∧ Below w.heap.size w w'
end Go.Proofs.YtbmondbicnfcpaaDoor


/-
  ext: Put.
-/
namespace Go.Proofs.YtbmondbicnfcpaaDoor
open Go.RowKit
set_option linter.unusedVariables false
set_option linter.unusedSimpArgs false

set_option maxRecDepth 100000 in
theorem clipB_any (v : Value) (l : List UInt8) (w : World) (h : By w v l) : Calls Tryd.prog 42 #[v] w fun e w' => ∃ a, e = .returned (.slice a l.length l.length) ∧ By w (.slice a l.length l.length) l ∧ w' = w := by
  obtain ⟨a, cap, rfl, hc, hm, hn⟩ := h.shape
  have h2 := h.take l.length l.length (Nat.le_refl _) (Nat.le_refl _) hc
  rw [List.take_length] at h2
  have hi : (l.length : Int) ≤ (cap : Int) := by omega
  cases a with
  | none =>
    have hz := hn rfl
    subst hz
    obtain rfl : l = [] := List.eq_nil_of_length_eq_zero (by omega)
    go_enter Tryd.func42, Tryd.ntmps42
    go_wp2_with fail
    go_ret
    exact ⟨none, rfl, By.nil w, rfl⟩
  | some ad =>
    go_enter Tryd.func42, Tryd.ntmps42
    go_wp2_with fail
    go_ret
    exact ⟨some ad, by simp, h2, rfl⟩

theorem RdT.lit1 {W0 W : World} {g : Nat} {c0 c1 c2 c3 c4 c5 : Value} {t : Tm} (h : W.heap[g]? = some (.cells #[c0, c1, c2, c3, c4, c5] 29 (0, 0))) (ht : IsT W0 t (.agg #[c0, c1, c2, c3, c4, c5])) : RdT W0 W (.slice (some ⟨g, 0, none⟩) 1 1) [t] := by
  refine ⟨some ⟨g, 0, none⟩, 1, fun _ => .agg #[c0, c1, c2, c3, c4, c5], rfl, ⟨by simp, by decide, (fun e => by cases e)⟩, fun _ => ⟨g, 0, rfl, .inr ⟨_, h, fun cs e => by injection e with _ e2 _; exact absurd e2 (by decide)⟩, fun i hi => ?_⟩, fun i hi => ?_⟩
  · obtain rfl : i = 0 := by simp at hi; omega
    exact ⟨c0, c1, c2, c3, c4, c5, rfl, by simp [World.cell?, h], by simp [World.cell?, h], by simp [World.cell?, h], by simp [World.cell?, h], by simp [World.cell?, h], by simp [World.cell?, h]⟩
  · obtain rfl : i = 0 := by simp at hi; omega
    exact ht

set_option maxRecDepth 100000 in
set_option maxHeartbeats 4000000 in
theorem eput_any (v tv : Value) (l : List UInt8) (t : Tm) (w : World) (h : By w v l) (hl : l.length ≤ 80000000) (ht : IsT w t tv) :
    Calls Tryd.prog 16 #[v, tv] w fun e w' => PPost w l t e w' := by
  have h0 := ht
  obtain ⟨sl, sk, rfl, hls, hk, -⟩ := ht.open
  obtain ⟨pl, cl, rfl⟩ := hls.shape
  obtain ⟨pk, ck, rfl, -⟩ := hk.shape
  obtain ⟨ok, hok⟩ : ∃ ok, t.ok = ok := ⟨_, rfl⟩
  have HOK : Hid (t.ok = ok) := hok
  have HI : Hid (IsT w t (tmV t.kind t.neg (.slice pl t.limbs.length cl) t.str t.num (.slice pk t.kids.length ck))) := h0
  obtain ⟨wA, hwA⟩ : ∃ wA, w.alloc (.cells #[.int .i64 t.kind, .bool t.neg, .slice pl t.limbs.length cl, .string t.str, .int .i64 t.num, .slice pk t.kids.length ck] 29) = wA := ⟨_, rfl⟩
  have hBt : Bt wA w.heap.size t.kind t.neg (.slice pl t.limbs.length cl) t.str t.num (.slice pk t.kids.length ck) := by rw [← hwA]; exact Bt.new w _ _ _ _ _ _ ⟨_, _, _, rfl⟩ ⟨_, _, _, rfl⟩
  have hBA : Below w.heap.size w wA := by rw [← hwA]; exact (Below.refl _ _).alloc (Nat.le_refl _) _
  have hyA := h.under hBA
  have HBt : Hid (Bt wA w.heap.size t.kind t.neg (.slice pl t.limbs.length cl) t.str t.num (.slice pk t.kids.length ck)) := hBt
  have HBA : Hid (Below w.heap.size w wA) := hBA
  obtain ⟨a0, a1, a2, a3, a4, a5⟩ := hBt.cells
  clear ht h0 hls hk hok hBt hBA h
  simp only [tmV]
  go_enter Tryd.func16, Tryd.ntmps16
  go_wp2_with fail
  refine (clipB_any v l wA hyA).mono ?_
  rintro e w1 ⟨a, rfl, hy, rfl⟩
  have HRB : Hid (RB w1 w.heap.size (.slice a l.length l.length) l) := .inr ⟨hy, a, rfl⟩
  clear hy hyA
  go_wp2_with fail
  refine (tcheck_any t _ w1 (HI.out.under HBA.out)).mono ?_
  rintro e w2 ⟨rfl, b2⟩
  rw [HOK.out]
  obtain ⟨d0, d1, d2, d3, d4, d5⟩ := (HBt.out.under b2).cells
  have hR2 := HRB.out.under b2
  have HW2 : Hid (Below w.heap.size w w2) := HBA.out.trans (b2.mono HBA.out.size)
  have HR2 : Hid (RB w2 w.heap.size (.slice a l.length l.length) l) := hR2
  clear b2 hR2 hwA
  cases ok with
  | false =>
    go_wp2_with fail
    go_ret
    refine ⟨_, rfl, ?_, ?_, HW2.out⟩
    · rw [putO, if_neg (by rw [HOK.out]; decide), List.append_nil]; exact HR2.out
    · rw [putO, if_neg (by rw [HOK.out]; decide)]; simp
  | true =>
    have ho := (ok_iff t).1 HOK.out
    have HO1 : Hid (okD t 1) := ho.1
    have hn2 := ho.2
    have ba := (Below.refl w2.heap.size w2).alloc (Nat.le_refl _) (.cells #[.int .i64 t.kind, .bool t.neg, .slice pl t.limbs.length cl, .string t.str, .int .i64 t.num, .slice pk t.kids.length ck] 29)
    have HWa : Hid (Below w.heap.size w (w2.alloc (.cells #[.int .i64 t.kind, .bool t.neg, .slice pl t.limbs.length cl, .string t.str, .int .i64 t.num, .slice pk t.kids.length ck] 29))) := HW2.out.trans (ba.mono HW2.out.size)
    have HRa : Hid (RB (w2.alloc (.cells #[.int .i64 t.kind, .bool t.neg, .slice pl t.limbs.length cl, .string t.str, .int .i64 t.num, .slice pk t.kids.length ck] 29)) w.heap.size (.slice a l.length l.length) l) := HR2.out.under ba
    have HLit : Hid (RdT w (w2.alloc (.cells #[.int .i64 t.kind, .bool t.neg, .slice pl t.limbs.length cl, .string t.str, .int .i64 t.num, .slice pk t.kids.length ck] 29)) (.slice (some ⟨w2.heap.size, 0, none⟩) 1 1) [t]) := RdT.lit1 (heap_alloc_new w2 _) HI.out
    clear ba ho
    go_wp2_with fail
    refine (putAll_any [t] w _ _ _ l HWa.out HRa.out HLit.out (fun x hx => by simp only [List.mem_singleton] at hx; subst hx; exact ⟨_, HO1.out⟩) (by simp [nodesL]; omega)).mono ?_
    rintro e w3 ⟨v3, rfl, r3, -, -, l3, b3, k3⟩
    have HR3 : Hid (RB w3 w.heap.size v3 (l ++ putO t)) := by rw [putO, if_pos HOK.out, ← putK_one]; exact r3
    have HL3 : Hid ((putO t).length ≤ 820000) := by
      rw [putO, if_pos HOK.out, ← putK_one]
      show _ ≤ _
      have : nodesL [t] = t.nodes := by simp [nodesL]
      omega
    have HB3 : Hid (Below w.heap.size w w3) := b3
    clear r3 l3 b3 k3
    go_wp2_with fail
    go_ret
    exact ⟨v3, rfl, HR3.out, HL3.out, HB3.out⟩
end Go.Proofs.YtbmondbicnfcpaaDoor
