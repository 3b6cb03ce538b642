
/-
  term.Cmp, term.Same of trees.
-/
import Derived.Test.YtfcdocgjmgpmkaaDoorTermSideC
import Derived.Test.YtfcdocgjmgpmkaaDoorTermSideS
namespace Go.Proofs.YtfcdocgjmgpmkaaDoor
open Go.RowKit
set_option linter.unusedVariables false
set_option linter.unusedSimpArgs false

/-- Each Cons has two parts or more. -/
def Tm.cons2 : Tm → Prop := Tm.fold (fun t Ks => (t.kind = 4 → 2 ≤ Ks.length) ∧ andL Ks)
def cons2L : List Tm → Prop
  | [] => True
  | t :: r => Tm.cons2 t ∧ cons2L r
theorem cons2L_and : ∀ l : List Tm, andL (l.map Tm.cons2) = cons2L l
  | [] => rfl
  | t :: r => by simp only [List.map_cons, andL, cons2L, cons2L_and r]
theorem Tm.cons2_mk (k : Int) (n : Bool) (L : List Int) (S : ByteArray) (N : Int) (K : List Tm) : Tm.cons2 (.mk k n L S N K) = ((k = 4 → 2 ≤ K.length) ∧ cons2L K) := by
  rw [← cons2L_and]
  unfold Tm.cons2
  rw [Tm.fold_mk]
  simp only [List.length_map]
theorem cons2_eq (t : Tm) : t.cons2 ↔ (t.kind = 4 → 2 ≤ t.kids.length) ∧ cons2L t.kids := by cases t; simp [Tm.cons2_mk, Tm.kind, Tm.kids]
theorem cons2L_mem : ∀ {l : List Tm}, cons2L l → ∀ k ∈ l, k.cons2
  | [], _, k, h => by simp at h
  | t :: r, h, k, hk => by
    simp only [cons2L] at h
    rcases List.mem_cons.1 hk with rfl | h1
    · exact h.1
    · exact cons2L_mem h.2 k h1
theorem cons2_parts {t : Tm} (h : t.cons2) : ∀ k ∈ t.cparts, k.cons2 := by
  intro k hk
  have := (cons2_eq t).1 h
  refine cons2L_mem this.2 k ?_
  unfold Tm.cparts Tm.parts at hk
  split at hk
  · exact List.mem_of_mem_take hk
  · split at hk
    · exact hk
    · simp at hk

theorem rankS_4 (k : Int) : rankS k = 5 ↔ k = 4 := by
  constructor
  · intro h
    unfold rankS at h
    repeat (split at h; first | omega | assumption | skip)
    all_goals first | omega | assumption
  · rintro rfl; rfl
theorem rankS_5 (k : Int) : rankS k = 3 ↔ k = 5 := by
  constructor
  · intro h
    unfold rankS at h
    repeat (split at h; first | omega | assumption | skip)
    all_goals first | omega | assumption
  · rintro rfl; rfl
theorem rankS_7 (k : Int) : rankS k = 2 ↔ k = 7 := by
  constructor
  · intro h
    unfold rankS at h
    repeat (split at h; first | omega | assumption | skip)
    all_goals first | omega | assumption
  · rintro rfl; rfl
theorem cmp1_rank {a b : Tm} (h : a.cmp1 b = 0) : rankS a.kind = rankS b.kind := by
  unfold Tm.cmp1 compareR at h
  split at h
  · contradiction
  · exact sg_zero (by omega)
theorem cmp1_len {a b : Tm} (ga : a.cons2) (gb : b.cons2) (h : a.cmp1 b = 0) : a.cparts.length = b.cparts.length := by
  have hr := cmp1_rank h
  have ha := ((cons2_eq a).1 ga).1
  have hb := ((cons2_eq b).1 gb).1
  unfold Tm.cparts
  by_cases h4 : a.kind = 4
  · have hb4 : b.kind = 4 := (rankS_4 _).1 (hr ▸ (rankS_4 _).2 h4)
    rw [if_pos h4, if_pos hb4]
    have := ha h4
    have := hb hb4
    simp only [List.length_take]
    omega
  · have hb4 : ¬ b.kind = 4 := fun e => h4 ((rankS_4 _).1 (hr.symm ▸ (rankS_4 _).2 e))
    rw [if_neg h4, if_neg hb4]
    unfold Tm.parts
    unfold Tm.cmp1 compareR at h
    rw [hr, sg_self] at h
    simp only [ne_eq, not_true_eq_false, if_false] at h
    by_cases h5 : a.kind = 5
    · have hb5 : b.kind = 5 := (rankS_5 _).1 (hr ▸ (rankS_5 _).2 h5)
      rw [if_pos (by omega), if_pos (by omega)]
      rw [if_neg (by omega), if_neg (by omega), if_neg (by omega), if_pos h5] at h
      have := sg_zero h
      omega
    · have hb5 : ¬ b.kind = 5 := fun e => h5 ((rankS_5 _).1 (hr.symm ▸ (rankS_5 _).2 e))
      by_cases h7 : a.kind = 7
      · have hb7 : b.kind = 7 := (rankS_7 _).1 (hr ▸ (rankS_7 _).2 h7)
        rw [if_pos (by omega), if_pos (by omega)]
        rw [if_neg (by omega), if_neg (by omega), if_pos h7] at h
        split at h
        · exact absurd (sg_zero h) (by assumption)
        · have := sg_zero h
          omega
      · have hb7 : ¬ b.kind = 7 := fun e => h7 ((rankS_7 _).1 (hr.symm ▸ (rankS_7 _).2 e))
        rw [if_neg (by omega), if_neg (by omega)]
def unl (a b : Tm) : Int := if a.alike b = true then 0 else 1
theorem unl_zero {a b : Tm} (h : unl a b = 0) : a.alike b = true := by
  unfold unl at h
  split at h
  · assumption
  · omega
theorem unl_len {a b : Tm} (h : unl a b = 0) : a.parts.length = b.parts.length := by
  have h := unl_zero h
  unfold Tm.alike at h
  simp only [Bool.and_eq_true, decide_eq_true_eq] at h
  obtain ⟨hk, h⟩ := h
  unfold Tm.parts
  rw [← hk]
  split
  · rename_i h7
    unfold alikeR at h
    rw [if_neg (by omega), if_neg (by omega)] at h
    split at h
    · simp only [Bool.and_eq_true, decide_eq_true_eq] at h; exact h.2
    · rw [if_pos (by omega)] at h
      simpa using h
  · rfl

/-- The order of two terms. -/
def Tm.cmp (a b : Tm) : Int := sbF Tm.cmp1 Tm.cparts a.nodes [a] [b]
/-- Two terms are the same. -/
def Tm.same (a b : Tm) : Bool := decide (sbF unl Tm.parts a.nodes [a] [b] = 0)

set_option maxHeartbeats 1000000 in
theorem tcmp_any (a b : Tm) (va vb : Value) (w : World) (ho : Hid (Ord w)) (ga : Hid a.cons2) (gb : Hid b.cons2) (ha : IsT w a va) (hb : IsT w b vb) (hn : a.nodes ≤ 1000000) :
    Calls Tryd.prog 10 #[va, vb] w fun e w' => e = .returned (.int .i64 (a.cmp b)) ∧ Below w.heap.size w w' := by
  have HA : Hid (IsT w a va) := ha
  have HB : Hid (IsT w b vb) := hb
  obtain ⟨sl1, sk1, rfl, hl1, hk1, -, -, -⟩ := ha.open
  obtain ⟨sl2, sk2, rfl, hl2, hk2, -, -, -⟩ := hb.open
  obtain ⟨pl1, cl1, rfl⟩ := hl1.shape
  obtain ⟨pk1, ck1, rfl, -⟩ := hk1.shape
  obtain ⟨pl2, cl2, rfl⟩ := hl2.shape
  obtain ⟨pk2, ck2, rfl, -⟩ := hk2.shape
  clear ha hb hl1 hk1 hl2 hk2
  obtain ⟨R, hR⟩ : ∃ R, a.cmp b = R := ⟨_, rfl⟩
  have HR : Hid (a.cmp b = R) := hR
  rw [hR]
  clear hR
  simp only [tmV] at *
  have HBB : Hid (Below w.heap.size w ((w.alloc (.cells (tC a pl1 cl1 pk1 ck1) 27)).alloc (.cells (tC b pl2 cl2 pk2 ck2) 27))) := ((Below.refl w.heap.size w).alloc (Nat.le_refl _) _).alloc (by simp) _
  go_enter Tryd.func10, Tryd.ntmps10
  go_wp2_with fail
  refine (sideC_any Ord (fun w w' h hb => h.under hb) Tm.cons2 Tm.cmp1 Tm.cparts (fun a b va vb w ho ga gb ha hb => compare_any a b va vb w ho ha hb) (fun t v w g h => cparts_of t v w h ((cons2_eq t).1 g).1) cparts_nodes (fun t g => cons2_parts g) (fun a b ga gb h => cmp1_len ga gb h) a b _ _ _ (ho.out.under HBB.out) ga gb (HA.out.under HBB.out) (HB.out.under HBB.out) a.nodes (Nat.le_refl _) hn).mono ?_
  rintro e w1 ⟨rfl, b1⟩
  rw [show sbF Tm.cmp1 Tm.cparts a.nodes [a] [b] = R from HR.out]
  have hbb := HBB.out.trans (b1.mono HBB.out.size)
  clear HBB b1
  go_wp2_with fail
  go_ret
  exact ⟨rfl, hbb⟩

set_option maxHeartbeats 1000000 in
theorem tsame_any (a b : Tm) (va vb : Value) (w : World) (ha : IsT w a va) (hb : IsT w b vb) (hn : a.nodes ≤ 1000000) :
    Calls Tryd.prog 11 #[va, vb] w fun e w' => e = .returned (.bool (a.same b)) ∧ Below w.heap.size w w' := by
  have HA : Hid (IsT w a va) := ha
  have HB : Hid (IsT w b vb) := hb
  obtain ⟨sl1, sk1, rfl, hl1, hk1, -, -, -⟩ := ha.open
  obtain ⟨sl2, sk2, rfl, hl2, hk2, -, -, -⟩ := hb.open
  obtain ⟨pl1, cl1, rfl⟩ := hl1.shape
  obtain ⟨pk1, ck1, rfl, -⟩ := hk1.shape
  obtain ⟨pl2, cl2, rfl⟩ := hl2.shape
  obtain ⟨pk2, ck2, rfl, -⟩ := hk2.shape
  clear ha hb hl1 hk1 hl2 hk2
  obtain ⟨R, hR⟩ : ∃ R, a.same b = R := ⟨_, rfl⟩
  have HR : Hid (a.same b = R) := hR
  rw [hR]
  clear hR
  simp only [tmV] at *
  have HBB : Hid (Below w.heap.size w ((w.alloc (.cells (tC a pl1 cl1 pk1 ck1) 27)).alloc (.cells (tC b pl2 cl2 pk2 ck2) 27))) := ((Below.refl w.heap.size w).alloc (Nat.le_refl _) _).alloc (by simp) _
  go_enter Tryd.func11, Tryd.ntmps11
  go_wp2_with fail
  refine (sideS_any (fun _ => True) (fun _ _ _ _ => trivial) (fun _ => True) unl Tm.parts (fun a b va vb w _ _ _ ha hb => unlike_any a b va vb w ha hb) (fun t v w _ h => parts_of t v w h) parts_nodes (fun _ _ _ _ => trivial) (fun a b _ _ h => unl_len h) a b _ _ _ trivial trivial trivial (HA.out.under HBB.out) (HB.out.under HBB.out) a.nodes (Nat.le_refl _) hn).mono ?_
  rintro e w1 ⟨rfl, b1⟩
  have hbb := HBB.out.trans (b1.mono HBB.out.size)
  obtain ⟨z, hz⟩ : ∃ z, sbF unl Tm.parts a.nodes [a] [b] = z := ⟨_, rfl⟩
  have HZ : Hid (R = decide (z = 0)) := by show R = _; rw [← hz, ← HR.out]; rfl
  rw [hz]
  clear HBB b1 hz
  go_wp2_with fail
  go_ret
  exact ⟨by rw [HZ.out]; first | rfl | simp, hbb⟩

theorem sbF_refl {jd : Tm → Tm → Int} {pt : Tm → List Tm} (h : ∀ x, jd x x = 0) : ∀ (n : Nat) (xs : List Tm), sbF jd pt n xs xs = 0
  | 0, _ => rfl
  | n + 1, [] => rfl
  | n + 1, x :: xs => by simp [sbF, h, sbF_refl h n (pt x ++ xs)]
theorem compareBytes_self : ∀ l : List UInt8, Lib.compareBytes l l = 0
  | [] => by simp [Lib.compareBytes]
  | a :: r => by
    unfold Lib.compareBytes
    rw [if_neg (by simp), if_neg (by simp)]
    exact compareBytes_self r
theorem cmp1_self (x : Tm) : x.cmp1 x = 0 := by
  unfold Tm.cmp1 compareR
  simp [sg_self, compareBytes_self]
theorem alike_self (x : Tm) : x.alike x = true := by
  unfold Tm.alike alikeR
  simp
theorem cmp_self (x : Tm) : x.cmp x = 0 := sbF_refl cmp1_self _ _
theorem same_self (x : Tm) : x.same x = true := by
  unfold Tm.same
  rw [decide_eq_true_eq]
  exact sbF_refl (fun x => by unfold unl; rw [if_pos (alike_self x)]) _ _
/-- Two terms whose own fields differ. -/
theorem cmp_differ {x y : Tm} (h : x.cmp1 y ≠ 0) : x.cmp y = x.cmp1 y := by
  unfold Tm.cmp
  rw [sbF_step cparts_nodes _ _ _ _ _ (by simp [nodesL]), if_neg h]
theorem same_differ {x y : Tm} (h : x.alike y = false) : x.same y = false := by
  unfold Tm.same
  have hu : unl x y = 1 := by unfold unl; rw [if_neg (by rw [h]; decide)]
  rw [sbF_step parts_nodes _ _ _ _ _ (by simp [nodesL]), hu]
  simp
end Go.Proofs.YtfcdocgjmgpmkaaDoor
