
/-
  The document's own answers of layer 1 (relictref01): Norm, at, Cmp.
-/
import Derived.Test.YtfcdocgjmgpmkaaDoorSame
import Derived.Test.YtfcdocgjmgpmkaaDoorZLimbC
namespace Go.Proofs.YtfcdocgjmgpmkaaDoor
open Go.RowKit
set_option linter.unusedVariables false

theorem Owns.num {w w' : World} {v : Value} {a : List Int} {x : Int} {l : Nat} (h : Owns w' w.heap.size v a) (hok : Ok a) (hn : Nm a) (hx : V a = x) (hl : a.length ≤ l) (hb : Below w.heap.size w w') : NumPost w x l (.returned v) w' :=
  ⟨v, a, rfl, h.sl hok, hn, hx, hl, hb, fun k hk => (World.ownsRow.lt h k hk).1⟩

set_option maxHeartbeats 1000000 in
theorem rnorm_any (va : Value) (a : List Int) (w : World) (ha : Sl w va a) (hla : a.length ≤ 1000000) :
    Calls Tryd.prog 73 #[va] w fun e w' => NumPost w (V a) a.length e w' := by
  obtain ⟨i, hi, hz0, hz1, hz2⟩ := info_parts Tryd.infoU32
  obtain ⟨pa, ca, rfl⟩ := ha.shape
  have hlen := ha.len
  have hown : w.ownsRow w.heap.size 47 1 (.slice none 0 0) 0 [] := World.ownsRow_nil _ _ _ _
  go_enter Tryd.func73, Tryd.ntmps73
  go_wp2_with fail
  go_loop [3] (fun s => ∃ k : Nat, k ≤ a.length ∧ s = .int .i64 k ∧ ∀ j, k ≤ j → j < a.length → a.getD j 0 = 0) (fun s => (intOf s).toNat)
  case atStart => exact ⟨a.length, Nat.le_refl _, rfl, fun j h1 h2 => by omega⟩
  case round =>
    obtain ⟨k, hk, rfl, hz⟩ := hrel
    have HV : Hid (V (a.take k) = V a) := V_trim a k hk (fun i h1 h2 => hz i h1 h2)
    have HZ : Hid _ := hz
    clear hz
    cases k with
    | zero =>
      rcases pa with _ | x
      · have h0 := hlen.2.2.2 rfl
        subst h0
        go_wp2_with (first | (at_builtin; refine wpList_append_own_none rfl _ _ 22 rfl w.heap.size 47 i 1 Tryd.underlying22 hi (.slice none 0 0) 0 [] rfl hown rfl ?_) | fail)
        go_ret
        exact Owns.num (a := []) hown Ok.nil Nm_nil (by rw [← HV.out]; rfl) (Nat.zero_le _) (Below.refl _ _)
      · go_wp2_with (first | (at_builtin; refine wpList_append_own _ rfl _ _ 22 rfl w.heap.size 47 i (.int .u32 0) 1 4 Tryd.underlying22 hi hz0 hz1 hz2 rfl (by decide) (.slice none 0 0) 0 [] rfl hown x 0 _ [] rfl (by simp) (by simp) (by simp) (by decide) (by decide) (Nat.le_refl _) ?_; intro v' w1 hown1 hgr1 _) | fail)
        go_ret
        exact Owns.num (a := []) hown1 Ok.nil Nm_nil (by rw [← HV.out]; rfl) (Nat.zero_le _) ((Below.refl _ _).grown hgr1 (Nat.le_refl _) (fun k hk => by simp [Value.ownBlock] at hk))
    | succ m =>
      obtain ⟨b, off, rfl, hcm⟩ := ha.at m (by omega)
      have hnews : ∀ j u, ((a.take (m + 1)).map (Value.int .u32))[j]? = some u → w.cell? ((⟨b, off, none⟩ : Addr).add j) = some u := by
        intro j u hu
        by_cases hj : j < m + 1
        · obtain ⟨b', off', he, hc⟩ := ha.at j (by omega)
          simp at he
          obtain ⟨rfl, rfl⟩ := he
          rw [show (⟨b, off, none⟩ : Addr).add j = ⟨b, off + j, none⟩ by unfold Addr.add; split <;> simp_all, hc]
          simp [hj, show j < a.length by omega] at hu
          simp [List.getD, show j < a.length by omega, hu]
        · rw [List.getElem?_eq_none (by simp; omega)] at hu
          cases hu
      have hml : (a.take (m + 1)).length = m + 1 := by simp; omega
      obtain ⟨x, hx⟩ : ∃ x, x = a.getD m 0 := ⟨_, rfl⟩
      rw [← hx] at hcm
      have HX : Hid _ := hx
      have HNM : Hid (x ≠ 0 → Nm (a.take (m + 1))) := fun h => Nm_take a (m + 1) (by omega) (fun _ => by rw [hx] at h; simpa using h)
      have HN : Hid _ := hnews
      have hok' := ha.ok.take (m + 1)
      clear hx hnews
      generalize a.take (m + 1) = A at *
      by_cases hx0 : x = 0
      · subst hx0
        go_wp2_with fail
        go_round
        case rel =>
          refine ⟨m, by omega, by go_num, fun j h1 h2 => ?_⟩
          by_cases e : j = m
          · subst e; exact HX.out.symm
          · exact HZ.out j (by omega) h2
        case measure => simp [intOf]
      · have hb : (x == 0) = false := beq_eq_false_iff_ne.2 hx0
        have hnm : Nm A := HNM.out hx0
        go_wp2_with (first | (at_builtin; refine wpList_append_own _ rfl _ _ 22 rfl w.heap.size 47 i (.int .u32 0) 1 4 Tryd.underlying22 hi hz0 hz1 hz2 rfl (by decide) (.slice none 0 0) 0 [] rfl hown ⟨b, off, none⟩ (m + 1) _ (A.map (Value.int .u32)) rfl (by simp; omega) HN.out (ints_oneCell _ _) (by simp only [maxLen]; omega) (by omega) (Nat.le_refl _) ?_; intro v' w1 hown1 hgr1 _; simp only [Nat.zero_add, List.nil_append, ← hml] at hown1) | fail)
        go_ret
        exact Owns.num (a := A) hown1 hok' hnm HV.out (by omega) ((Below.refl _ _).grown hgr1 (Nat.le_refl _) (fun k hk => by simp [Value.ownBlock] at hk))

theorem pad_at (A : List Int) (n j : Nat) : (A ++ zer n).getD j 0 = A.getD j 0 := by
  simp only [List.getD_eq_getElem?_getD]
  by_cases h : j < A.length
  · rw [List.getElem?_append_left h]
  · rw [List.getElem?_append_right (by omega), List.getElem?_eq_none (l := A) (by omega)]
    have := zer_at n (j - A.length)
    rw [List.getD_eq_getElem?_getD] at this
    rw [this]; rfl
theorem pad_V (A : List Int) (n : Nat) : V (A ++ zer n) = V A := by rw [V_append, zer_V]; omega

theorem sg_high {A C : List Int} (ha : Ok A) (hc : Ok C) (q : Nat) (h : ∀ j, q + 1 ≤ j → A.getD j 0 = C.getD j 0) (hne : A.getD q 0 ≠ C.getD q 0) : sg (A.getD q 0) (C.getD q 0) = sg (V A) (V C) := by
  have e := sg_top (A := A ++ zer (C.length + q + 1)) (C := C ++ zer (A.length + q + 1)) (ha.append (zer_ok _)) (hc.append (zer_ok _)) q (by simp [zer_len]; omega) (by simp [zer_len]; omega)
    (fun j h1 _ => by rw [pad_at, pad_at]; exact h j h1) (by rw [pad_at, pad_at]; exact hne)
  rw [pad_at, pad_at, pad_V, pad_V] at e
  exact e

theorem V_same {A C : List Int} (ha : Ok A) (hc : Ok C) (h : ∀ j, A.getD j 0 = C.getD j 0) : V A = V C := by
  rw [← pad_V A C.length, ← pad_V C A.length]
  congr 1
  apply List.ext_getElem (by simp [zer_len]; omega)
  intro j h1 h2
  have e := h j
  rw [← pad_at A C.length, ← pad_at C A.length] at e
  rw [List.getD_eq_getElem?_getD, List.getElem?_eq_getElem h1, List.getD_eq_getElem?_getD, List.getElem?_eq_getElem h2] at e
  exact e

end Go.Proofs.YtfcdocgjmgpmkaaDoor
