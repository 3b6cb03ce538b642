/-
  num.Parse: the number of a text.
-/
import Derived.Test.YtmhcgdigccaogaaNumRead
namespace Go.Proofs.Ytmhcgdigccaogaa
open Go.RowKit
set_option linter.unusedVariables false
set_option linter.unusedSimpArgs false

/-- What Parse takes a text for, ahead of holding it against its own text. -/
def parseX (s : ByteArray) : Int := Z (isM s.data.toList) (rd (offM s.data.toList))
/-- What Parse answers. -/
def parseS (s : ByteArray) : Option Int :=
  if s.size ≤ 200 ∧ (rd (offM s.data.toList) < B 12 ∧ (rd (offM s.data.toList) = 0 → isM s.data.toList = false)) ∧ strOfNums (decL (parseX s)) = s then some (parseX s) else none

theorem good_read {neg : Bool} {zs : List Int} (hok : Ok zs) (hn : Nm zs) : Good neg zs ↔ (V zs < B 12 ∧ (V zs = 0 → neg = false)) := by
  constructor
  · intro h
    refine ⟨(room_len hok hn).1 h.1, fun h0 => h.2.2 (len_zero hok hn h0)⟩
  · rintro ⟨h1, h2⟩
    exact ⟨(room_len hok hn).2 h1, hn, fun e => h2 (by rw [e]; rfl)⟩

theorem off_size (s r : ByteArray) (h : r.data.toList = offM s.data.toList) : r.size ≤ s.size := by
  rw [Lib.size_eq, Lib.size_eq, h]
  unfold offM
  split
  · simp
  · exact Nat.le_refl _

theorem same_text {a b : ByteArray} : (a.toList == b.toList) = true ↔ a = b := by
  rw [beq_iff_eq, Lib.toList_data, Lib.toList_data]
  constructor
  · intro h
    have := congrArg (fun l => (⟨l.toArray⟩ : ByteArray)) h
    rwa [Lib.mk_data, Lib.mk_data] at this
  · intro h; rw [h]

set_option maxHeartbeats 8000000 in
theorem parse_any (s : ByteArray) (w : World) : Calls Try.prog 23 #[.string s] w fun e w' => OpPost w (parseS s) e w' := by
  have hB0 := (Below.refl w.heap.size w).alloc (Nat.le_refl _) (.cells #[.bool false, .slice none 0 0] 24)
  have ur := Bx.new w false none 0 0
  obtain ⟨r, hr⟩ : ∃ r, r = parseS s := ⟨_, rfl⟩
  rw [← hr]
  have HR : Hid (r = parseS s) := hr
  clear hr
  by_cases hsz : s.size ≤ 200
  · have hsz' : ¬ ((200 : Int) < (s.size : Int)) := by omega
    go_enter Try.func23, Try.ntmps23
    go_wp2_with fail
    refine (cut_any s _).mono ?_
    rintro e w1 ⟨⟨q, rfl, hq⟩, rfl⟩
    have hqs := off_size s q hq
    have HQ : Hid (q.data.toList = offM s.data.toList) := hq
    obtain ⟨m, hm⟩ : ∃ m, m = isM s.data.toList := ⟨_, rfl⟩
    have HM : Hid (m = isM s.data.toList) := hm
    rw [← hm]
    clear hq hm
    generalize hw1 : w.alloc (.cells #[.bool false, .slice none 0 0] 24) = w1 at *
    clear hw1
    go_wp2_with fail
    refine (read_any q _ (by omega)).mono ?_
    rintro e w2 ⟨v2, z2, rfl, t2, m2, x2, l2, b2, -⟩
    obtain ⟨p2, c2, rfl⟩ := t2.shape
    have HX : Hid (V z2 = rd (offM s.data.toList)) := by show V z2 = _; rw [x2, HQ.out]
    have hgg := Nat.lt_of_lt_of_le ur.lt b2.size
    have ub := Bx.new w2 m p2 z2.length c2
    have bb := (Below.refl w2.heap.size w2).alloc (Nat.le_refl _) (.cells #[.bool m, .slice p2 z2.length c2] 24)
    replace t2 := t2.below bb
    have b22 := b2.trans (bb.mono b2.size)
    replace ur := ur.under b22
    replace hB0 := hB0.trans (b22.mono hB0.size)
    clear x2 b2 bb b22
    obtain ⟨c0, c1, -⟩ := ub.facts
    go_wp2_with fail
    generalize w2.alloc (.cells #[.bool m, .slice p2 z2.length c2] 24) = w3 at *
    generalize w2.heap.size = gn at *
    by_cases hg : Good m z2
    · refine (check_yes m _ z2 _ t2 hg).mono ?_
      rintro e w4 ⟨rfl, b4⟩
      have ix : IsN w3 (.agg #[.bool m, .slice p2 z2.length c2]) (parseX s) := ⟨m, z2, ⟨_, rfl, t2⟩, hg, by rw [HX.out, HM.out]; rfl⟩
      have HG : Hid (rd (offM s.data.toList) < B 12 ∧ (rd (offM s.data.toList) = 0 → isM s.data.toList = false)) := by
        have := (good_read t2.ok m2).1 hg
        rw [HX.out, HM.out] at this
        exact this
      replace ix := ix.below b4
      replace ub := ub.under b4
      replace ur := ur.under b4
      replace hB0 := hB0.trans (b4.mono hB0.size)
      clear c0 c1 b4 t2
      obtain ⟨c0, c1, -⟩ := ub.facts
      go_wp2_with fail
      refine (text_any _ _ _ ix.nx).mono ?_
      rintro e w5 ⟨rfl, b5⟩
      replace ix := ix.below b5
      replace ub := ub.under b5
      replace ur := ur.under b5
      replace hB0 := hB0.trans (b5.mono hB0.size)
      clear c0 c1 b5
      obtain ⟨T, hT⟩ : ∃ T, T = strOfNums (decL (parseX s)) := ⟨_, rfl⟩
      rw [← hT]
      by_cases ht : T = s
      · have htb : (T.toList == s.toList) = true := same_text.2 ht
        have HN : Hid (r = some (parseX s)) := by
          show r = _
          rw [HR.out]
          exact if_pos ⟨hsz, HG.out, hT.symm.trans ht⟩
        clear ht hT hg
        obtain ⟨d0, d1, d2, d3, d4⟩ := ur.facts
        obtain ⟨c0, c1, -⟩ := ub.facts
        obtain ⟨n9, z9, ⟨s9, he9, t9⟩, g9, x9⟩ := ix
        simp only [Value.agg.injEq, List.toArray_inj, List.cons.injEq, Value.bool.injEq, and_true] at he9
        obtain ⟨rfl, rfl⟩ := he9
        have H9 : Hid (Good m z9 ∧ Z m (V z9) = parseX s) := ⟨g9, x9⟩
        clear g9 x9
        go_wp2_with fail
        refine bodyPost_ret (results_box2 rfl _ _ w.heap.size m (.slice p2 z2.length c2) rfl ur.set) rfl ?_
        rw [HN.out]
        exact ⟨_, rfl, ⟨m, z9, ⟨_, rfl, t9.box ur (setBx_but _ _ _ _)⟩, H9.out.1, H9.out.2⟩, hB0.trans ((setBx_but _ _ _ _).below (Nat.le_refl _))⟩
      · have htb : (T.toList == s.toList) = false := by
          cases h : (T.toList == s.toList)
          · rfl
          · exact absurd (same_text.1 h) ht
        have HN : Hid (r = none) := by
          show r = none
          rw [HR.out]
          exact if_neg (fun h => ht (hT.trans h.2.2))
        clear ht hT hg
        obtain ⟨d0, d1, d2, d3, d4⟩ := ur.facts
        go_wp2_with fail
        refine bodyPost_ret (results_box2 rfl _ _ w.heap.size false (.slice none 0 0) rfl ur.set) rfl ?_
        rw [HN.out]
        exact ⟨_, rfl, IsN.zero _, hB0.trans ((setBx_but _ _ _ _).below (Nat.le_refl _))⟩
    · refine (check_no m _ z2 _ t2 hg).mono ?_
      rintro e w4 ⟨rfl, b4⟩
      have HN : Hid (r = none) := by
        show r = none
        rw [HR.out]
        refine if_neg (fun h => hg ((good_read t2.ok m2).2 ?_))
        rw [HX.out, HM.out]
        exact h.2.1
      replace ur := ur.under b4
      replace hB0 := hB0.trans (b4.mono hB0.size)
      clear c0 c1 b4 t2 hg
      obtain ⟨d0, d1, d2, d3, d4⟩ := ur.facts
      go_wp2_with fail
      refine bodyPost_ret (results_box2 rfl _ _ w.heap.size false (.slice none 0 0) rfl ur.set) rfl ?_
      rw [HN.out]
      exact ⟨_, rfl, IsN.zero _, hB0.trans ((setBx_but _ _ _ _).below (Nat.le_refl _))⟩
  · have hsz' : (200 : Int) < (s.size : Int) := by omega
    have HN : Hid (r = none) := by show r = none; rw [HR.out]; exact if_neg (fun h => hsz h.1)
    obtain ⟨d0, d1, d2, d3, d4⟩ := ur.facts
    go_enter Try.func23, Try.ntmps23
    go_wp2_with fail
    refine bodyPost_ret (results_box2 rfl _ _ w.heap.size false (.slice none 0 0) rfl ur) rfl ?_
    rw [HN.out]
    exact ⟨_, rfl, IsN.zero _, hB0⟩
end Go.Proofs.Ytmhcgdigccaogaa
