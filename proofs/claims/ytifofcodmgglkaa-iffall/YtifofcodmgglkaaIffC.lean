/-
  iff: refused, fileSize, Find.
-/
import Derived.Test.YtifofcodmgglkaaIffZ
namespace Go.Proofs.Ytifofcodmgglkaa
open Go.RowKit Go.Maps
set_option linter.unusedVariables false
set_option linter.unusedSimpArgs false

theorem ref_step {seen : List Ck} {l : List Ck} {k : Nat} (hk : k < l.length) : refS seen (l.drop k) = if okN l[k].1.data.toList = false then 1 else if hasN seen l[k].1 = true then 6 else refS (seen ++ [l[k]]) (l.drop (k + 1)) := by
  rw [List.drop_eq_getElem_cons hk]
  rfl
theorem take_more {α : Type} {l : List α} {k : Nat} (hk : k < l.length) : l.take (k + 1) = l.take k ++ [l[k]] := by rw [List.take_succ_eq_append_getElem hk]

/-- Whatever a call makes in new memory leaves the old one alone. -/
theorem grown_below {w w1 w2 : World} {B b : Nat} (h : Below B w w1) (hg : w1.grownBy w2 (some b)) (hB : B ≤ w1.heap.size) (hb : B ≤ b) : Below B w w2 :=
  h.grown hg hB (fun j hj => by cases hj; exact hb)

set_option maxHeartbeats 2000000 in
theorem refused_any (v : Value) (l : List Ck) (w : World) (h : Ch w v l) (hl : (l.length : Int) ≤ 100000000000000) : Calls Try.prog 23 #[v] w fun e w' => e = .returned (.int .i64 (refS [] l)) ∧ Below w.heap.size w w' := by
  obtain ⟨a, cap, rfl, hc, hm, hn⟩ := h.shape
  obtain ⟨z, hz⟩ : ∃ z, refS [] l = z := ⟨_, rfl⟩
  have HZ : Hid (refS [] l = z) := hz
  rw [hz]; clear hz
  have hmm := @run_makeMap Try.prog
  go_enter Try.func23, Try.ntmps23
  go_wp2_with fail
  go_loopg [9] l.length (fun gk s9 wr => ∃ k : Nat, k + gk = l.length ∧ s9 = .int .i64 (k : Int) ∧ Hid (Nms wr w.heap.size k (l.take k)) ∧ Hid (Below w.heap.size w wr) ∧ Hid (refS (l.take k) (l.drop k) = z))
  case atStart => exact ⟨0, by omega, rfl, Nms.made w, (Below.refl _ _).alloc (Nat.le_refl _) _, HZ⟩
  case round =>
    obtain ⟨k, hk, rfl, HN, HB, HD⟩ := hrel
    clear HZ hmm
    cases gk with
    | zero =>
      obtain rfl : k = l.length := by omega
      have HE : Hid ((0 : Int) = z) := by unfold Hid; have := HD.out; rw [List.drop_length] at this; exact this
      clear HD
      go_wp2_with fail
      go_ret
      exact ⟨ret_int HE.out, HB.out⟩
    | succ g =>
      have hkl : k < l.length := by omega
      obtain ⟨b, off, rfl, hlt, hc1, hc2, hs1, hs2⟩ := (h.under HB.out).at k hkl
      have hst := ref_step (seen := l.take k) hkl
      have htk := take_more hkl
      rw [HD.out] at hst
      obtain ⟨c, hcd⟩ : ∃ c, c = l[k] := ⟨_, rfl⟩
      rw [← hcd] at hc1 hc2 hs1 hs2 hst htk
      clear hcd HD
      have hki : (k : Int) < (l.length : Int) := by omega
      have hal := (Below.refl wr.heap.size wr).alloc (Nat.le_refl _) (.cells #[.string c.1, .string c.2] 39)
      have HN1 : Hid (Nms (wr.alloc (.cells #[.string c.1, .string c.2] 39)) w.heap.size k (l.take k)) := HN.out.under hal
      have HB1 : Hid (Below w.heap.size w (wr.alloc (.cells #[.string c.1, .string c.2] 39))) := HB.out.alloc HB.out.size _
      clear hal HN HB
      cases ho : okN c.1.data.toList
      · rw [if_pos ho] at hst
        have HE : Hid (z = 1) := hst
        have HO : Hid _ := ho
        clear ho hst htk
        go_wp2_with (first
          | (go_at_call 32; refine (isName_any _ _ hs1).mono ?_; rintro e w1 ⟨rfl, rfl⟩; rw [HO.out])
          | go_in)
        go_ret
        exact ⟨ret_int HE.out.symm, HB1.out⟩
      · rw [if_neg (by rw [ho]; simp)] at hst
        have HO : Hid _ := ho
        clear ho
        cases hh : hasN (l.take k) c.1
        · rw [hh, if_neg (by simp)] at hst
          have HE : Hid (refS (l.take k ++ [c]) (l.drop (k + 1)) = z) := hst.symm
          have HH : Hid _ := hh
          have HT : Hid _ := htk
          clear hst hh htk
          go_wp2_with (first
            | (go_at_call 32; refine (isName_any _ _ hs1).mono ?_; rintro e w1 ⟨rfl, rfl⟩; rw [HO.out])
            | (go_at_call 31; refine (add_any _ k (l.take k) c _ HN1.out (by omega) hs1).mono ?_; rintro e w2 ⟨rfl, hn2, hg2⟩; rw [HH.out])
            | go_in)
          have h2 := hn2 HH.out
          have hB2 := HB1.out.grown hg2 HB1.out.size (fun j hj => by cases hj; exact Nat.le_refl _)
          go_roundg g
          case measure => omega
          case rel => exact ⟨k + 1, by omega, by go_num, by rw [HT.out]; exact h2, hB2, by rw [HT.out]; exact HE⟩
        · rw [hh, if_pos rfl] at hst
          have HE : Hid (z = 6) := hst
          have HH : Hid _ := hh
          clear hst hh htk
          go_wp2_with (first
            | (go_at_call 32; refine (isName_any _ _ hs1).mono ?_; rintro e w1 ⟨rfl, rfl⟩; rw [HO.out])
            | (go_at_call 31; refine (add_any _ k (l.take k) c _ HN1.out (by omega) hs1).mono ?_; rintro e w2 ⟨rfl, hn2, hg2⟩; rw [HH.out])
            | go_in)
          have hB2 := HB1.out.grown hg2 HB1.out.size (fun j hj => by cases hj; exact Nat.le_refl _)
          go_ret
          exact ⟨ret_int HE.out.symm, hB2⟩
end Go.Proofs.Ytifofcodmgglkaa
