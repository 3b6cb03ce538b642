/-
  relictlaw05.IffSpoilt.
-/
import Derived.Test.YtifofcodmgglkaaIffLengthsWalk
import Derived.Test.YtifofcodmgglkaaIffMathD
namespace Go.Proofs.Ytifofcodmgglkaa
open Go.RowKit Go.Maps
set_option linter.unusedVariables false
set_option linter.unusedSimpArgs false

theorem xor_one (b : UInt8) : bits .xor .u8 (b.toNat : Int) 1 = ((b ^^^ 1).toNat : Int) ∧ b ^^^ 1 ≠ b := by
  have h := b.toNat_lt
  refine ⟨?_, ?_⟩
  · rw [show (1 : Int) = ((1 : Nat) : Int) from rfl, u8_xor_nat _ _ (by omega) (by omega)]
    simp
  · intro e
    have h1 : b ^^^ (b ^^^ 1) = 0 := by rw [e]; simp
    rw [← UInt8.xor_assoc, UInt8.xor_self, UInt8.zero_xor] at h1
    cases h1

theorem cv_one (l : List Ck) : ∀ u ∈ cv l, u.oneCell' = true := by
  induction l with
  | nil => intro u hu; simp [cv] at hu
  | cons c r ih =>
    intro u hu
    simp only [cv, List.mem_cons] at hu
    rcases hu with rfl | rfl | hu
    · rfl
    · rfl
    · exact ih u hu
theorem Ch.news {w : World} {b off n cap : Nat} {l : List Ck} (h : Ch w (.slice (some ⟨b, off, none⟩) n cap) l) : ∀ j u, (cv l)[j]? = some u → w.cell? ((⟨b, off, none⟩ : Addr).add j) = some u := by
  intro j u hu
  have hj : j < l.length * 2 := by
    have := (List.getElem?_eq_some_iff.1 hu).1
    rwa [cv_len] at this
  obtain ⟨b', off', he, -, p1, p2, -⟩ := h.at (j / 2) (by omega)
  simp at he
  obtain ⟨rfl, rfl⟩ := he
  have hc := cv_at l (j / 2) (by omega)
  rw [show (⟨b, off, none⟩ : Addr).add j = ⟨b, off + j, none⟩ by unfold Addr.add; split <;> simp_all]
  rcases Nat.mod_two_eq_zero_or_one j with hm | hm
  · have e : 2 * (j / 2) = j := by omega
    rw [e] at hc
    rw [hc.1] at hu
    rw [show off + j = off + j / 2 * 2 by omega, p1]
    exact hu
  · have e : 2 * (j / 2) + 1 = j := by omega
    rw [e] at hc
    rw [hc.2] at hu
    rw [show off + j = off + j / 2 * 2 + 1 by omega, p2]
    exact hu

set_option maxHeartbeats 4000000 in
theorem iffSpoilt_walk (v0 : Value) (l : List Ck) (how at1 : Int) (w : World) (h0 : Ch w v0 l) (hh1 : -9223372036854775808 ≤ how) (hh2 : how ≤ 9223372036854775807) (ha1 : -9223372036854775808 ≤ at1) (ha2 : at1 ≤ 9223372036854775807) :
    Calls Try.prog 5 #[v0, .int .i64 how, .int .i64 at1] w fun e w' => e = .returned (.bool true) ∧ Below w.heap.size w w' := by
  obtain ⟨a0, cap0, rfl, hc0, hm0, hn0⟩ := h0.shape
  obtain ⟨i0, hi, hz0, hz1, hz2⟩ := info_parts Try.infoU8
  obtain ⟨i1, ki, kz0, kz1, kz2⟩ := info_parts Try.infoCk
  have HBz : Hid (Below w.heap.size w w) := Below.refl _ _
  go_enter Try.func5, Try.ntmps5
  go_wp2_with fail
  refine (few_any _ l _ h0).mono ?_
  rintro e w1 ⟨q, rfl, hq, rfl⟩
  cases q
  · clear hq
    go_wp2_with fail
    refine (awake_any _).mono ?_
    rintro e wa ⟨rfl, ba⟩
    have HA : Hid (Below w.heap.size w wa) := HBz.out.trans (ba.mono HBz.out.size)
    clear ba
    go_wp2_with fail
    go_ret
    exact ⟨rfl, HA.out⟩
  · obtain ⟨hl12, hl3⟩ := hq rfl
    have hl13 : (l.length : Int) ≤ 100000000000000 := by omega
    have hsz := siz_few l hl3
    clear hq HBz hl3
    go_wp2_with fail
    refine (make_any _ l _ h0 hl13).mono ?_
    rintro e w2 ⟨v2, rfl, o2, b2⟩
    have HB2 : Hid _ := b2
    clear b2
    by_cases e1 : (makS l).2 = 0
    · obtain ⟨-, -, hmf, hml⟩ := mak_ok e1
      rw [e1]
      have HE : Hid _ := e1
      obtain ⟨g, c2, rfl, hg2, hc2, hc3⟩ := OB.shape o2 (by omega)
      have h0' := h0.under HB2.out
      clear e1
      obtain ⟨L, hL⟩ : ∃ L, L = (makS l).1.length := ⟨_, rfl⟩
      rw [← hL] at hml hc2 o2 ⊢
      have HL : Hid _ := hL
      have hL12 : (12 : Int) ≤ (L : Int) := by omega
      have hL6 : (L : Int) ≤ 60000 := by omega
      have hLp : (0 : Int) < (L : Int) := by omega
      have hLq : (L : Int) ≤ 1073741824 := by omega
      clear hL hmf hml hsz
      go_wp2_with fail
      refine (place_any how 4 _ (by omega) (by omega) hh1 hh2).mono ?_
      rintro e w3 ⟨rfl, rfl⟩
      obtain ⟨p, hp⟩ : ∃ p, p = how % 4 := ⟨_, rfl⟩
      have hp0 : 0 ≤ p := by rw [hp]; exact Int.emod_nonneg _ (by omega)
      have hp4 : p < 4 := by rw [hp]; exact Int.emod_lt_of_pos _ (by omega)
      rw [← hp]
      clear hp
      by_cases p0 : p = 0
      · subst p0
        go_wp2_with fail
        refine (place_any at1 (L : Int) w2 hLp hLq ha1 ha2).mono ?_
        rintro e w4 ⟨rfl, rfl⟩
        obtain ⟨j, hj⟩ := Int.eq_ofNat_of_zero_le (Int.emod_nonneg at1 (show (L : Int) ≠ 0 by omega))
        have hjL : (j : Int) < (L : Int) := by rw [← hj]; exact Int.emod_lt_of_pos _ (by omega)
        rw [hj]
        clear hj
        have hjc : (j : Int) ≤ (c2 : Int) := by omega
        have hP := par_cut HE.out (j := j) (by rw [← HL.out]; omega)
        have HY : Hid (By _ (.slice (some ⟨g, 0, none⟩) j c2) ((makS l).1.take j)) := o2.by.take j c2 (by rw [← HL.out]; omega) (by omega) (Nat.le_refl _)
        have HBy := HB2
        by_cases hj12 : (j : Int) < 12
        · rw [if_pos (by omega)] at hP
          have HP : Hid _ := hP
          clear hP o2
          go_wp2_with fail
          refine (parse_any _ _ _ HY.out).mono ?_
          rw [HP.out]
          rintro e w8 ⟨v8, rfl, o8, k8, b8⟩
          obtain ⟨a8, c8, rfl, -, -, -⟩ := (o8.ch k8).shape
          have HBz : Hid (Below w.heap.size w w8) := HBy.out.trans (b8.mono HBy.out.size)
          clear o8 k8 b8 HBy HY
          simp only [List.length_nil]
          go_wp2_with fail
          refine (awake_any _).mono ?_
          rintro e wa ⟨rfl, ba⟩
          have HA : Hid (Below w.heap.size w wa) := HBz.out.trans (ba.mono HBz.out.size)
          clear ba
          go_wp2_with fail
          go_ret
          exact ⟨rfl, HA.out⟩
        · rw [if_neg (by omega)] at hP
          have HP : Hid _ := hP
          clear hP o2
          go_wp2_with fail
          refine (parse_any _ _ _ HY.out).mono ?_
          rw [HP.out]
          rintro e w8 ⟨v8, rfl, o8, k8, b8⟩
          obtain ⟨a8, c8, rfl, -, -, -⟩ := (o8.ch k8).shape
          have HBz : Hid (Below w.heap.size w w8) := HBy.out.trans (b8.mono HBy.out.size)
          clear o8 k8 b8 HBy HY
          simp only [List.length_nil]
          go_wp2_with fail
          refine (awake_any _).mono ?_
          rintro e wa ⟨rfl, ba⟩
          have HA : Hid (Below w.heap.size w wa) := HBz.out.trans (ba.mono HBz.out.size)
          clear ba
          go_wp2_with fail
          go_ret
          exact ⟨rfl, HA.out⟩
      · by_cases p1 : p = 1
        · subst p1
          have hP := par_more HE.out (by rw [← HL.out]; omega)
          have HP : Hid _ := hP
          clear hP
          have hsz2 := HB2.out.size
          go_wp2_with (first
            | (at_builtin; refine wpList_append_own _ rfl _ _ 22 rfl w.heap.size 5 i0 (.int .u8 0) 1 1 Try.underlying22 hi hz0 hz1 hz2 rfl (by decide) _ _ _ rfl (World.ownsRow.alloc o2 _) ⟨w2.heap.size, 0, none⟩ 4 4 (bv [0, 0, 0, 0]) rfl rfl (new_cells w2 (bv [0, 0, 0, 0]) _) (bv_one _) (by rw [← HL.out]; unfold maxLen; omega) (by rw [← HL.out]; omega) (by simp; omega) ?_; intro v5 w5 hown5 hg5 hnil5; replace hg5 : (w2.alloc (.cells (bv [0, 0, 0, 0]).toArray 5)).grownBy w5 (some g) := hg5)
            | fail)
          have o5 : OB w5 w.heap.size v5 ((makS l).1 ++ [0, 0, 0, 0]) := OB.more hown5 (by simp)
          have HBy : Hid (Below w.heap.size w w5) := (HB2.out.alloc HB2.out.size _).grown hg5 (by simp; omega) (fun j hj => by cases hj; exact hg2)
          have HY : Hid (By w5 v5 ((makS l).1 ++ [0, 0, 0, 0])) := o5.by
          clear hown5 hg5 hnil5 o5 o2
          go_wp2_with fail
          refine (parse_any _ _ _ HY.out).mono ?_
          rw [HP.out]
          rintro e w8 ⟨v8, rfl, o8, k8, b8⟩
          obtain ⟨a8, c8, rfl, -, -, -⟩ := (o8.ch k8).shape
          have HBz : Hid (Below w.heap.size w w8) := HBy.out.trans (b8.mono HBy.out.size)
          clear o8 k8 b8 HBy HY
          simp only [List.length_nil]
          go_wp2_with fail
          refine (awake_any _).mono ?_
          rintro e wa ⟨rfl, ba⟩
          have HA : Hid (Below w.heap.size w wa) := HBz.out.trans (ba.mono HBz.out.size)
          clear ba
          go_wp2_with fail
          go_ret
          exact ⟨rfl, HA.out⟩
        · by_cases p2 : p = 2
          · subst p2
            go_wp2_with fail
            refine (place_any at1 4 w2 (by omega) (by omega) ha1 ha2).mono ?_
            rintro e w4 ⟨rfl, rfl⟩
            obtain ⟨j, hj⟩ := Int.eq_ofNat_of_zero_le (Int.emod_nonneg at1 (show (4 : Int) ≠ 0 by omega))
            have hj4 : (j : Int) < 4 := by rw [← hj]; exact Int.emod_lt_of_pos _ (by omega)
            rw [hj]
            clear hj
            obtain ⟨f1, f2⟩ := o2.facts j (by rw [← HL.out]; omega)
            obtain ⟨x1, x2⟩ := xor_one ((makS l).1.getD j 0)
            have o5 := o2.set j (by rw [← HL.out]; omega) _ ((makS l).1.getD j 0 ^^^ 1) rfl
            have hP := par_other HE.out (j := j) (by omega) x2
            have HP : Hid _ := hP
            generalize ((((makS l).1.getD j 0).toNat : Nat) : Int) = x at *
            generalize ((((makS l).1.getD j 0 ^^^ 1).toNat : Nat) : Int) = z at *
            have HY : Hid (By (w2.setCell ⟨g, j, none⟩ (.int .u8 z)) (.slice (some ⟨g, 0, none⟩) L c2) ((makS l).1.set j ((makS l).1.getD j 0 ^^^ 1))) := o5.by
            have HBy : Hid (Below w.heap.size w (w2.setCell ⟨g, j, none⟩ (.int .u8 z))) := HB2.out.setCell hg2 _
            have hjL : (j : Int) < (L : Int) := by omega
            clear hP x2 o5 o2
            go_wp2_with fail
            refine (parse_any _ _ _ HY.out).mono ?_
            rw [HP.out]
            rintro e w8 ⟨v8, rfl, o8, k8, b8⟩
            obtain ⟨a8, c8, rfl, -, -, -⟩ := (o8.ch k8).shape
            have HBz : Hid (Below w.heap.size w w8) := HBy.out.trans (b8.mono HBy.out.size)
            clear o8 k8 b8 HBy HY
            simp only [List.length_nil]
            go_wp2_with fail
            refine (awake_any _).mono ?_
            rintro e wa ⟨rfl, ba⟩
            have HA : Hid (Below w.heap.size w wa) := HBz.out.trans (ba.mono HBz.out.size)
            clear ba
            go_wp2_with fail
            go_ret
            exact ⟨rfl, HA.out⟩
          · obtain rfl : p = 3 := by omega
            by_cases hl0 : l.length = 0
            · have hl0i : (l.length : Int) = 0 := by omega
              have HBz := HB2
              go_wp2_with fail
              refine (awake_any _).mono ?_
              rintro e wa ⟨rfl, ba⟩
              have HA : Hid (Below w.heap.size w wa) := HBz.out.trans (ba.mono HBz.out.size)
              clear ba
              go_wp2_with fail
              go_ret
              exact ⟨rfl, HA.out⟩
            · have hl0i : (0 : Int) < (l.length : Int) := by omega
              obtain ⟨b, off, rfl, -, -⟩ := h0'.at 0 (by omega)
              have hnw := h0'.news
              have hsz2 := HB2.out.size
              go_wp2_with (first
                | (at_builtin; refine wpList_append_own _ rfl _ _ 23 rfl w.heap.size 39 i1 (.agg #[.string ⟨#[]⟩, .string ⟨#[]⟩]) 2 32 Try.underlying23 ki kz0 kz1 kz2 rfl (by decide) (.slice none 0 0) 0 [] rfl (OC.nil w2 w.heap.size) ⟨b, off, none⟩ l.length cap0 (cv l) rfl (cv_len l) hnw (cv_one l) (by unfold maxLen; omega) (by omega) hsz2 ?_; intro v5 w5 hown5 hg5 hnil5; replace hg5 : w2.grownBy w5 none := hg5)
                | fail)
              have o5 : OC w5 w.heap.size v5 l := by simpa [OC] using hown5
              have HB5 : Hid (Below w.heap.size w w5) := HB2.out.grown hg5 HB2.out.size (fun j hj => by cases hj)
              have h5 := h0.under HB5.out
              clear hown5 hg5 hnil5 hnw o2 h0'
              refine (place_any at1 (l.length : Int) w5 hl0i (by omega) ha1 ha2).mono ?_
              rintro e w6 ⟨rfl, rfl⟩
              obtain ⟨j, hj⟩ := Int.eq_ofNat_of_zero_le (Int.emod_nonneg at1 (show (l.length : Int) ≠ 0 by omega))
              have hjl : (j : Int) < (l.length : Int) := by rw [← hj]; exact Int.emod_lt_of_pos _ hl0i
              rw [hj]
              clear hj
              have hjn : j < l.length := by omega
              obtain ⟨b', off', he, -, q1, q2, s1, s2⟩ := h5.at j hjn
              simp at he
              obtain ⟨rfl, rfl⟩ := he
              have hmk := mak_twice HE.out (List.getElem_mem hjn)
              obtain ⟨c, hc⟩ : ∃ c, c = l[j] := ⟨_, rfl⟩
              rw [← hc] at q1 q2 s1 s2 hmk
              clear hc
              have HM : Hid _ := hmk
              have hsz5 := HB5.out.size
              clear hmk
              go_wp2_with (first
                | (at_builtin; refine wpList_append_own _ rfl _ _ 23 rfl w.heap.size 39 i1 (.agg #[.string ⟨#[]⟩, .string ⟨#[]⟩]) 2 32 Try.underlying23 ki kz0 kz1 kz2 rfl (by decide) _ _ _ rfl (World.ownsRow.alloc o5 _) ⟨w5.heap.size, 0, none⟩ 1 1 [.string c.1, .string c.2] rfl rfl (two_new w5 c) (by simp [Value.oneCell']) (by unfold maxLen; omega) (by omega) (by simp; omega) ?_; intro v7 w7 hown7 hg7 hnil7; replace hg7 : (w5.alloc (.cells #[.string c.1, .string c.2] 39)).grownBy w7 v5.ownBlock := hg7)
                | fail)
              have o7 : OC w7 w.heap.size v7 (l ++ [c]) := OC.more hown7
              have HB7 : Hid (Below w.heap.size w w7) := (HB5.out.alloc HB5.out.size _).grown hg7 (by simp; omega) (fun j hj => (World.ownsRow.lt o5 j hj).1)
              have c7 : Ch w7 v7 (l ++ [c]) := o7.ch (fun x hx => by
                rcases List.mem_append.1 hx with h | h
                · exact h0.1 x h
                · simp only [List.mem_cons, List.not_mem_nil, or_false] at h
                  subst h
                  exact ⟨s1, s2⟩)
              clear hown7 hg7 hnil7 o7 o5
              refine (make_any _ (l ++ [c]) _ c7 (by simp only [List.length_append, List.length_cons, List.length_nil]; omega)).mono ?_
              unfold MkPost
              rw [HM.out]
              rintro e w8 ⟨v8, rfl, o8, b8⟩
              have HBz : Hid (Below w.heap.size w w8) := HB7.out.trans (b8.mono HB7.out.size)
              clear o8 b8 HB7 c7
              go_wp2_with fail
              refine (awake_any _).mono ?_
              rintro e wa ⟨rfl, ba⟩
              have HA : Hid (Below w.heap.size w wa) := HBz.out.trans (ba.mono HBz.out.size)
              clear ba
              go_wp2_with fail
              go_ret
              exact ⟨rfl, HA.out⟩
    · have ne1 := e1
      clear e1
      obtain ⟨er1, her1⟩ : ∃ er, er = (makS l).2 := ⟨_, rfl⟩
      rw [← her1] at ne1 ⊢
      have HBz := HB2
      have y2 := o2.by
      obtain ⟨a2, c2, rfl, -, -, -⟩ := y2.shape
      have hnb : (er1 != 0) = true := by simpa using ne1
      clear her1 HB2 o2 y2
      go_wp2_with fail
      refine (awake_any _).mono ?_
      rintro e wa ⟨rfl, ba⟩
      have HA : Hid (Below w.heap.size w wa) := HBz.out.trans (ba.mono HBz.out.size)
      clear ba
      go_wp2_with fail
      go_ret
      exact ⟨rfl, HA.out⟩
end Go.Proofs.Ytifofcodmgglkaa
