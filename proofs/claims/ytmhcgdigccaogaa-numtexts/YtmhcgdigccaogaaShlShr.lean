/-
  limb.Shl, limb.Shr: a number times 2^n (n cut to from 0 to 4096), by 2^n, cut (n below 0 as 0).
-/
import Derived.Test.YtmhcgdigccaogaaLower
namespace Go.Proofs.Ytmhcgdigccaogaa
open Go.RowKit
set_option linter.unusedVariables false

/-- n as Shl takes it. -/
def upN (n : Int) : Nat := (min (max n 0) 4096).toNat
/-- n as Shr takes it. -/
def downN (n : Int) : Nat := (max n 0).toNat

theorem upN_neg {n : Int} (h : n < 0) : upN n = 0 := by unfold upN; omega
theorem upN_mid {n : Int} (h : 0 ≤ n) (h2 : n ≤ 4096) : upN n = n.toNat := by unfold upN; omega
theorem upN_big {n : Int} (h : 4096 < n) : upN n = 4096 := by unfold upN; omega

/-- A slice is answered, in new memory or nil: its number is x. -/
def MidPost (w : World) (x : Int) (l : Nat) (e : Ending) (w2 : World) : Prop :=
  ∃ v Z, e = .returned v ∧ Sl w2 v Z ∧ V Z = x ∧ Z.length ≤ l ∧ Below w.heap.size w w2 ∧ (∀ k, v.ownBlock = some k → w.heap.size ≤ k)

theorem RaisePost.mid {w w2 : World} {x : Int} {l m : Nat} {e : Ending} (h : RaisePost w x m e w2) (hm : m ≤ l) (hl : l ≤ 2000000) : MidPost w x l e w2 := by
  obtain ⟨g, Z, rfl, h1, h2, h3, h4, h5, h6⟩ := h
  have := h3.all h2 (by omega)
  rw [h1] at this
  exact ⟨_, Z, rfl, this, h4, by omega, h5, fun k hk => by simp [Value.ownBlock] at hk; omega⟩

theorem LowerPost.mid {w w2 : World} {x : Int} {l : Nat} {e : Ending} (h : LowerPost w x l e w2) (hl : l ≤ 1000000) : MidPost w x l e w2 := by
  obtain ⟨hb, h⟩ := h
  rcases h with ⟨rfl, rfl⟩ | ⟨g, Z, rfl, h0, h1, h2, h3, h4, h5⟩
  · exact ⟨_, [], rfl, Sl.nil _, rfl, Nat.zero_le _, hb, fun k hk => by simp [Value.ownBlock] at hk⟩
  · exact ⟨_, Z, rfl, h3.all h2 (by omega), h4, h1, hb, fun k hk => by simp [Value.ownBlock] at hk; omega⟩

/-- 'return trim(x)', x in new memory, or nil. -/
theorem TrimPost.numOf {w w3 : World} {x : Int} {l : Nat} {v : Value} {X' : List Int} {e : Ending} {w' : World} (h : TrimPost w3 v X' e w') (hbel : Below w.heap.size w w3) (hg : ∀ k, v.ownBlock = some k → w.heap.size ≤ k) (hx : V X' = x) (hl : X'.length ≤ l) :
    NumPost w x l e w' := by
  obtain ⟨rfl, v5, n5, rfl, hn5, hs5, hnm5, hv5, _, ho5, _⟩ := h
  refine ⟨v5, _, rfl, hs5, hnm5, hv5.trans hx, by simp; omega, hbel, fun k hk => ?_⟩
  rcases ho5 with h | ⟨h, _⟩
  · rw [hk] at h; cases h
  · rw [hk] at h; exact hg k h.symm

theorem raise_at (va : Value) (a : List Int) (z : Int) (n : Nat) (w : World) (hz : z = (n : Int)) (ha : Sl w va a) (hla : a.length ≤ 1000000) (hn : n ≤ 4096) :
    Calls Try.prog 81 #[va, .int .i64 z] w fun e w' => MidPost w (V a * T n) (a.length + 129) e w' := by
  subst hz
  exact (raise_any va a n (n / 32) (n % 32) w ha hla (by omega) (by omega) (by omega)).mono fun e w' h => h.mid (by omega) (by omega)

theorem lower_at (va : Value) (a : List Int) (z : Int) (n : Nat) (w : World) (hz : z = (n : Int)) (ha : Sl w va a) (hla : a.length ≤ 1000000) (hn : n ≤ 9223372036854775807) :
    Calls Try.prog 83 #[va, .int .i64 z] w fun e w' => MidPost w (V a / T n) a.length e w' := by
  subst hz
  exact (lower_any va a n (n / 32) (n % 32) w ha hla (by omega) (by omega) hn).mono fun e w' h => h.mid hla

set_option maxHeartbeats 1000000 in
theorem shl_any (va : Value) (a : List Int) (n : Int) (w : World) (ha : Sl w va a) (hla : a.length ≤ 900000) :
    Calls Try.prog 63 #[va, .int .i64 n] w fun e w' => NumPost w (V a * T (upN n)) (a.length + 129) e w' := by
  obtain ⟨aa, acap, rfl⟩ := ha.shape
  go_enter Try.func63, Try.ntmps63
  go_wp2_with fail
  refine (trim_any _ a _ ha).mono ?_
  rintro e w' ⟨rfl, v1, n1, rfl, hn1, hs1, hnm1, hv1, -, -, hk1⟩
  have H1 : Hid (V (a.take n1) = V a) := hv1
  have hl1 : (a.take n1).length ≤ a.length := by simp; omega
  clear hv1
  generalize a.take n1 = A at *
  obtain ⟨p1, c1, rfl⟩ := hs1.shape
  by_cases h0 : A.length = 0
  · have hb : ((A.length : Int) == 0) = true := beq_iff_eq.2 (by omega)
    have HF : Hid (V a = 0) := by
      show V a = 0
      rw [← H1.out, List.eq_nil_of_length_eq_zero h0]; rfl
    go_wp2_with fail
    go_ret
    exact ⟨_, [], rfl, Sl.nil _, Nm_nil, by rw [HF.out]; simp [V], Nat.zero_le _, Below.refl _ _, fun k hk => by simp [Value.ownBlock] at hk⟩
  · have hb : ((A.length : Int) == 0) = false := beq_eq_false_iff_ne.2 (by omega)
    have hu : upN n ≤ 4096 := by unfold upN; omega
    rcases (show n < 0 ∨ (0 ≤ n ∧ n ≤ 4096) ∨ 4096 < n by omega) with hc | ⟨hc, hc2⟩ | hc
    · go_wp2_with fail
      refine (raise_at _ A 0 (upN n) _ (by rw [upN_neg hc]; rfl) hs1 (by omega) hu).mono ?_
      rintro e w2 ⟨v2, Z, rfl, hsl, hV, hZl, hbel, hg⟩
      have HF : Hid (V Z = V a * T (upN n)) := by
        show V Z = V a * T (upN n)
        rw [hV, H1.out]
      have hZl' : Z.length ≤ a.length + 129 := by omega
      clear hV hZl
      go_wp2_with fail
      refine (trim_any _ Z _ hsl).mono ?_
      intro e w' hT
      obtain ⟨v, rfl, FIN⟩ := (hT.numOf hbel hg HF.out hZl').ends
      clear hT
      go_wp2_with fail
      go_ret
      exact FIN.out
    · go_wp2_with fail
      refine (raise_at _ A n (upN n) _ (by rw [upN_mid hc hc2]; omega) hs1 (by omega) hu).mono ?_
      rintro e w2 ⟨v2, Z, rfl, hsl, hV, hZl, hbel, hg⟩
      have HF : Hid (V Z = V a * T (upN n)) := by
        show V Z = V a * T (upN n)
        rw [hV, H1.out]
      have hZl' : Z.length ≤ a.length + 129 := by omega
      clear hV hZl
      go_wp2_with fail
      refine (trim_any _ Z _ hsl).mono ?_
      intro e w' hT
      obtain ⟨v, rfl, FIN⟩ := (hT.numOf hbel hg HF.out hZl').ends
      clear hT
      go_wp2_with fail
      go_ret
      exact FIN.out
    · go_wp2_with fail
      refine (raise_at _ A 4096 (upN n) _ (by rw [upN_big hc]; rfl) hs1 (by omega) hu).mono ?_
      rintro e w2 ⟨v2, Z, rfl, hsl, hV, hZl, hbel, hg⟩
      have HF : Hid (V Z = V a * T (upN n)) := by
        show V Z = V a * T (upN n)
        rw [hV, H1.out]
      have hZl' : Z.length ≤ a.length + 129 := by omega
      clear hV hZl
      go_wp2_with fail
      refine (trim_any _ Z _ hsl).mono ?_
      intro e w' hT
      obtain ⟨v, rfl, FIN⟩ := (hT.numOf hbel hg HF.out hZl').ends
      clear hT
      go_wp2_with fail
      go_ret
      exact FIN.out

theorem downN_neg {n : Int} (h : n < 0) : downN n = 0 := by unfold downN; omega
theorem downN_mid {n : Int} (h : 0 ≤ n) : downN n = n.toNat := by unfold downN; omega

set_option maxHeartbeats 1000000 in
theorem shr_any (va : Value) (a : List Int) (n : Int) (w : World) (ha : Sl w va a) (hla : a.length ≤ 900000) (hn : n ≤ 9223372036854775807) :
    Calls Try.prog 65 #[va, .int .i64 n] w fun e w' => NumPost w (V a / T (downN n)) a.length e w' := by
  obtain ⟨aa, acap, rfl⟩ := ha.shape
  go_enter Try.func65, Try.ntmps65
  go_wp2_with fail
  refine (trim_any _ a _ ha).mono ?_
  rintro e w' ⟨rfl, v1, n1, rfl, hn1, hs1, hnm1, hv1, -, -, hk1⟩
  have H1 : Hid (V (a.take n1) = V a) := hv1
  have hl1 : (a.take n1).length ≤ a.length := by simp; omega
  clear hv1
  generalize a.take n1 = A at *
  obtain ⟨p1, c1, rfl⟩ := hs1.shape
  have hu : downN n ≤ 9223372036854775807 := by unfold downN; omega
  rcases (show n < 0 ∨ 0 ≤ n by omega) with hc | hc
  · go_wp2_with fail
    refine (lower_at _ A 0 (downN n) _ (by rw [downN_neg hc]; rfl) hs1 (by omega) hu).mono ?_
    rintro e w2 ⟨v2, Z, rfl, hsl, hV, hZl, hbel, hg⟩
    have HF : Hid (V Z = V a / T (downN n)) := by
      show V Z = V a / T (downN n)
      rw [hV, H1.out]
    have hZl' : Z.length ≤ a.length := by omega
    clear hV hZl
    go_wp2_with fail
    refine (trim_any _ Z _ hsl).mono ?_
    intro e w' hT
    obtain ⟨v, rfl, FIN⟩ := (hT.numOf hbel hg HF.out hZl').ends
    clear hT
    go_wp2_with fail
    go_ret
    exact FIN.out
  · go_wp2_with fail
    refine (lower_at _ A n (downN n) _ (by rw [downN_mid hc]; omega) hs1 (by omega) hu).mono ?_
    rintro e w2 ⟨v2, Z, rfl, hsl, hV, hZl, hbel, hg⟩
    have HF : Hid (V Z = V a / T (downN n)) := by
      show V Z = V a / T (downN n)
      rw [hV, H1.out]
    have hZl' : Z.length ≤ a.length := by omega
    clear hV hZl
    go_wp2_with fail
    refine (trim_any _ Z _ hsl).mono ?_
    intro e w' hT
    obtain ⟨v, rfl, FIN⟩ := (hT.numOf hbel hg HF.out hZl').ends
    clear hT
    go_wp2_with fail
    go_ret
    exact FIN.out

theorem tmod_place (v m : Int) (hm : 0 < m) : (v.tmod m < 0 → v.tmod m + m = v % m) ∧ (¬ v.tmod m < 0 → v.tmod m = v % m) ∧ -m < v.tmod m := by
  have h1 := Int.emod_nonneg v (show m ≠ 0 by omega)
  have h2 := Int.emod_lt_of_pos v hm
  have h3 := Int.tmod_eq_emod (a := v) (b := m)
  by_cases hc : 0 ≤ v ∨ m ∣ v
  · rw [if_pos hc] at h3
    omega
  · rw [if_neg hc] at h3
    have h5 : v % m ≠ 0 := fun e => hc (.inr (Int.dvd_of_emod_eq_zero e))
    omega

theorem upN_nat {k : Nat} (h : k ≤ 4096) : upN (k : Int) = k := by unfold upN; omega
theorem downN_nat (k : Nat) : downN (k : Int) = k := by unfold downN; omega

theorem isLen_up {x : Int} {l : Nat} (k : Nat) (h : IsLen x l) (h0 : 0 < l) : IsLen (x * T k) (l + k) := by
  rcases h with ⟨_, h2⟩ | ⟨h1, h2, h3⟩
  · omega
  · have hT := T_pos k
    refine .inr ⟨by omega, ?_, ?_⟩
    · rw [show l + k - 1 = (l - 1) + k by omega, T_add]
      exact Int.mul_le_mul_of_nonneg_right h2 (by omega)
    · rw [T_add]
      exact Int.mul_lt_mul_of_pos_right h3 hT

theorem isLen_zero {x : Int} (h : IsLen x 0) : x = 0 := by
  rcases h with ⟨h1, _⟩ | ⟨h1, _⟩
  · exact h1
  · omega

theorem isLen_top {x : Int} {l : Nat} (h : IsLen x l) : x / T l = 0 := by
  rcases h with ⟨h1, h2⟩ | ⟨h1, h2, h3⟩
  · rw [h1]; simp
  · exact Int.ediv_eq_zero_of_lt (by have := T_pos (l - 1); omega) h3

theorem isLen_one {x : Int} {l : Nat} (h : IsLen x l) (h0 : 0 < l) : x / T (l - 1) = 1 := by
  rcases h with ⟨_, h2⟩ | ⟨h1, h2, h3⟩
  · omega
  · have hT := T_pos (l - 1)
    obtain ⟨m, rfl⟩ : ∃ m, l = m + 1 := ⟨l - 1, by omega⟩
    simp only [Nat.add_sub_cancel, T] at h2 h3 hT ⊢
    have e : x = (x - T m) + 1 * T m := by omega
    rw [e, Int.add_mul_ediv_right _ _ (by omega), Int.ediv_eq_zero_of_lt (by omega) (by omega)]
    omega
end Go.Proofs.Ytmhcgdigccaogaa
