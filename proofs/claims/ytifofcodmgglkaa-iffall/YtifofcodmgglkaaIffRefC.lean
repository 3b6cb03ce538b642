/-
  relictref05.Parse.
-/
import Derived.Test.YtifofcodmgglkaaIffRefB
namespace Go.Proofs.Ytifofcodmgglkaa
open Go.RowKit Go.Maps
set_option linter.unusedVariables false
set_option linter.unusedSimpArgs false

theorem two_new2 (w : World) (o : Obj) (c : Ck) (j : Nat) (u : Value) (hj : [Value.string c.1, Value.string c.2][j]? = some u) : ((w.alloc o).alloc (.cells #[Value.string c.1, Value.string c.2] 39)).cell? ((⟨w.heap.size + 1, 0, none⟩ : Addr).add j) = some u := by
  have := two_new (w.alloc o) c j u hj
  rwa [show (w.alloc o).heap.size = w.heap.size + 1 by simp] at this

/-- The loop's state. -/
def RpRel (w : World) (R : List Ck × Int) (gk : Nat) (b : Value) (v : Value) (wr : World) : Prop :=
  ∃ (l : List UInt8) (acc : List Ck), l.length ≤ gk ∧ By w b l ∧ l.length ≤ 1000000 ∧ acc.length + l.length ≤ 1000000 ∧ OC wr w.heap.size v acc ∧ ckOk acc ∧ Below w.heap.size w wr ∧ chS l.length acc l = R

set_option maxHeartbeats 8000000 in
theorem rparse_any (v : Value) (l : List UInt8) (w : World) (h : By w v l) : Calls Try.prog 12 #[v] w fun e w' => ParPost w (parS l) e w' := by
  obtain ⟨i0, hi, hz0, hz1, hz2⟩ := info_parts Try.infoCk
  obtain ⟨a, cap, rfl, hc, hm, hn⟩ := h.shape
  by_cases h1 : (65536 : Int) < (l.length : Int)
  · rw [par_big (by omega)]
    go_enter Try.func12, Try.ntmps12
    go_wp2_with fail
    go_ret2
    exact ⟨_, rfl, OC.nil _ _, fun c hc => by simp at hc, Below.refl _ _⟩
  · by_cases h2 : (l.length : Int) < 12
    · rw [par_short (by omega)]
      go_enter Try.func12, Try.ntmps12
      go_wp2_with fail
      go_ret2
      exact ⟨_, rfl, OC.nil _ _, fun c hc => by simp at hc, Below.refl _ _⟩
    · obtain ⟨b, off, rfl, hlt, -⟩ := h.at 0 (by omega)
      have HW : Hid (By w (.slice (some ⟨b, off, none⟩) l.length cap) l) := h
      obtain ⟨ob, hob⟩ : ∃ ob, ob = if cap = 12 then off else off + 12 := ⟨_, rfl⟩
      have hP : (if cap = 12 then some (⟨b, off, none⟩ : Addr) else some ⟨b, off + 12, none⟩) = some ⟨b, ob, none⟩ := by rw [hob]; split <;> rfl
      have HD : Hid (By w (.slice (some ⟨b, ob, none⟩) (l.length - 12) (cap - 12)) (l.drop 12)) := h.dropI 12 ob (by omega) hob
      have h12 : (12 : Int) ≤ (cap : Int) := by omega
      have h8 : (8 : Int) ≤ (cap : Int) := by omega
      have h12l : (12 : Int) ≤ (l.length : Int) := by omega
      obtain ⟨NM, hNM⟩ : ∃ NM : ByteArray, NM = ⟨(l.take 4).toArray⟩ := ⟨_, rfl⟩
      obtain ⟨NB, hNB⟩ : ∃ NB : ByteArray, NB = ⟨((l.drop 8).take 4).toArray⟩ := ⟨_, rfl⟩
      have t4 : (convert 22 9 (.slice (some ⟨b, off, none⟩) 4 cap)).run Try.prog w = .ok (.string NM) w := by rw [hNM]; exact (h.take 4 cap (by omega) (by omega) (Nat.le_refl _)).text
      have t8 : (convert 22 9 (.slice (some ⟨b, off + 8, none⟩) 4 (cap - 8))).run Try.prog w = .ok (.string NB) w := by rw [hNB]; exact (By.take (h.drop 8 (by omega)) 4 (cap - 8) (by simp; omega) (by omega) (Nat.le_refl _)).text
      have c1 : (NM.toList == [70, 79, 82, 49]) = (l.take 4 == markF) := by rw [tl_eq, hNM]; rfl
      have c2 : (NB.toList == [66, 69, 65, 77]) = ((l.drop 8).take 4 == markB) := by rw [tl_eq, hNB]; rfl
      have HH : Hid (headed l = ((l.take 4 == markF) && ((l.drop 8).take 4 == markB) && decide (cntL (l.drop 4) = l.length - 8))) := rfl
      have HC : Hid (∀ W : World, By W (.slice (some ⟨b, off + 4, none⟩) 4 (cap - 4)) ((l.drop 4).take 4) → Calls Try.prog 21 #[.slice (some ⟨b, off + 4, none⟩) 4 (cap - 4)] W fun e w' => e = .returned (.int .i64 (cntL (l.drop 4) : Int)) ∧ Below W.heap.size W w') := fun W hW => by
        have := rnumber_any _ _ W hW (by simp; omega)
        have e : cntL ((l.drop 4).take 4) = cntL (l.drop 4) := by
          unfold cntL
          rw [getD_take _ _ _ (by omega), getD_take _ _ _ (by omega), getD_take _ _ _ (by omega), getD_take _ _ _ (by omega)]
        rw [e] at this
        exact this
      have HS4 : Hid (By w (.slice (some ⟨b, off + 4, none⟩) 4 (cap - 4)) ((l.drop 4).take 4)) := By.take (h.drop 4 (by omega)) 4 (cap - 4) (by simp; omega) (by omega) (Nat.le_refl _)
      have hct := cnt_lt (l.drop 4)
      obtain ⟨n, hnn⟩ : ∃ n, n = cntL (l.drop 4) := ⟨_, rfl⟩
      obtain ⟨x, hx⟩ : ∃ x, x = (l.take 4 == markF) := ⟨_, rfl⟩
      obtain ⟨y, hy⟩ : ∃ y, y = ((l.drop 8).take 4 == markB) := ⟨_, rfl⟩
      rw [← hnn] at HC hct HH
      rw [← hx] at c1 HH
      rw [← hy] at c2 HH
      clear hob hn h hNM hNB hnn hx hy
      cases x
      · have hp := par_form (l := l) (by omega) (by omega) (by rw [HH.out]; rfl)
        rw [hp]
        have c1' : (NM.toList == [70, 79, 82, 49]) = false := c1
        clear c1 hp HH
        go_enter Try.func12, Try.ntmps12
        go_wp2_with fail
        go_ret2
        exact ⟨_, rfl, OC.nil _ _, fun c hc => by simp at hc, Below.refl _ _⟩
      · have c1' : (NM.toList == [70, 79, 82, 49]) = true := c1
        clear c1
        cases y
        · have hp := par_form (l := l) (by omega) (by omega) (by rw [HH.out]; rfl)
          rw [hp]
          have c2' : (NB.toList == [66, 69, 65, 77]) = false := c2
          clear c2 hp HH
          go_enter Try.func12, Try.ntmps12
          go_wp2_with fail
          go_ret2
          exact ⟨_, rfl, OC.nil _ _, fun c hc => by simp at hc, Below.refl _ _⟩
        · have c2' : (NB.toList == [66, 69, 65, 77]) = true := c2
          clear c2
          by_cases hn8 : (n : Int) = (l.length : Int) - 8
          · have hp := par_ok (l := l) (by omega) (by omega) (by rw [HH.out, decide_eq_true (by omega)]; rfl)
            rw [hp]
            have hnb : ((n : Int) != (l.length : Int) - 8) = false := by simpa using hn8
            have hne : ((n : Int) == (l.length : Int) - 8) = true := by simpa using hn8
            have hdl : (l.drop 12).length = l.length - 12 := by simp
            obtain ⟨R, hR⟩ : ∃ R, chS (l.drop 12).length [] (l.drop 12) = R := ⟨_, rfl⟩
            rw [hR]
            have HCh : Hid _ := hR
            clear hp HH hn8 hR
            go_enter Try.func12, Try.ntmps12
            go_wp2_with fail
            refine (HC.out _ HS4.out).mono ?_
            rintro e w1 ⟨rfl, hb1⟩
            have HS : Hid (RpRel w R (l.length - 12) (.slice (some ⟨b, ob, none⟩) (l.length - 12) (cap - 12)) (.slice none 0 0) w1) := ⟨l.drop 12, [], by omega, HD.out, by omega, by simp; omega, OC.nil _ _, fun c hc => by simp at hc, hb1, HCh.out⟩
            clear hb1 HCh HC HS4 HW
            go_wp2_with fail
            go_loopg [4, 5] (l.length - 12) (fun gk s4 s5 wr => Hid (RpRel w R gk s5 s4 wr))
            case atStart => exact HS
            case round =>
              obtain ⟨l2, acc, hgk, hB, hl1, hl2, hO, hk, hbel, hch⟩ := hrel.out
              obtain ⟨a2, cap2, rfl, hc2, hm2, -⟩ := hB.shape
              clear HS hrel
              have HB : Hid (By w (.slice a2 l2.length cap2) l2) := hB
              have HO : Hid (OC wr w.heap.size u4 acc) := hO
              have HK : Hid (ckOk acc) := hk
              have HBel : Hid _ := hbel
              have HCh : Hid _ := hch
              clear hB hO hk hbel hch
              by_cases h0 : l2 = []
              · subst h0
                have HE : Hid (R = (acc, 0)) := HCh.out.symm
                clear HCh
                go_wp2_with fail
                go_ret2
                have e := HE.out
                subst e
                exact ⟨_, rfl, HO.out, HK.out, HBel.out⟩
              · have h0l : 0 < l2.length := List.length_pos_iff.2 h0
                have h0i : (0 : Int) < (l2.length : Int) := by omega
                have hfs := fst_sizes hl1
                have hac := OC.ch HO.out HK.out
                obtain ⟨a4, c4, rfl, -, -, -⟩ := hac.shape
                go_wp2_with fail
                refine (rone_any _ _ l2 acc _ (HB.out.under HBel.out) hac h0 (by omega)).mono ?_
                rintro e w2 ⟨C, vr, E, rfl, hb2, hcase⟩
                have HB2 : Hid (Below w.heap.size w w2) := HBel.out.trans (hb2.mono HBel.out.size)
                have hO2 := HO.out.under hb2
                have HB3 : Hid (Below w.heap.size w (w2.alloc (.cells #[.string C.1, .string C.2] 39))) := HB2.out.alloc HB2.out.size _
                rcases hcase with ⟨hE, hch⟩ | ⟨rfl, hC, hf, hh, hBy⟩
                · have HR : Hid (R = ([], E)) := HCh.out.symm.trans hch
                  clear hch h0
                  go_wp2_with fail
                  go_ret2
                  have e := HR.out
                  subst e
                  exact ⟨_, rfl, OC.nil _ _, fun c hc => by simp at hc, HB3.out⟩
                · rw [← hC] at hfs
                  have hst := ch_step (acc := acc) h0 hf (by rw [← hC]; exact hh)
                  rw [HCh.out, ← hC] at hst
                  obtain ⟨k1, k2, -⟩ := fst_ok hf
                  obtain ⟨sz, hsz⟩ : ∃ sz, sz = (fstS l2).2.1 := ⟨_, rfl⟩
                  rw [← hsz] at hst k1 k2 hBy
                  have hBy' := hBy _ HB.out
                  clear hBy
                  obtain ⟨a5, c5, rfl, -, -, -⟩ := hBy'.shape
                  have hdl2 : (l2.drop sz).length = l2.length - sz := by simp
                  have HR : Hid _ := hst
                  have HD2 : Hid (By w (.slice a5 (l2.drop sz).length c5) (l2.drop sz)) := hBy'
                  have hO3 := hO2.under ((Below.refl _ _).alloc (Nat.le_refl _) (.cells #[.string C.1, .string C.2] 39))
                  have HO3 : Hid (OC (w2.alloc (.cells #[.string C.1, .string C.2] 39)) w.heap.size (.slice a4 acc.length c4) acc) := hO3
                  obtain ⟨y0, y1, -⟩ := (BxC.new w2 C).facts
                  have hs3 := HB3.out.size
                  have hal : acc.length ≤ 1000000 := by omega
                  clear hst hBy' hO2 hO3 hC hf hh hsz h0 HCh HO hac hb2
                  rw [hdl2]
                  go_wp2_with (first
                    | (at_builtin; refine wpList_append_own _ rfl _ _ 23 rfl w.heap.size 39 i0 (.agg #[.string ⟨#[]⟩, .string ⟨#[]⟩]) 2 32 Try.underlying23 hi hz0 hz1 hz2 rfl (by decide) _ _ _ rfl (World.ownsRow.alloc HO3.out _) ⟨w2.heap.size + 1, 0, none⟩ 1 1 [.string C.1, .string C.2] rfl rfl (two_new2 w2 _ C) (by simp [Value.oneCell']) (by unfold maxLen; omega) (by omega) (by simp at hs3 ⊢; omega) ?_; intro v6 w6 hown6 hg6 hnil6; replace hg6 : ((w2.alloc (.cells #[.string C.1, .string C.2] 39)).alloc (.cells #[.string C.1, .string C.2] 39)).grownBy w6 (Value.slice a4 acc.length c4).ownBlock := hg6)
                    | fail)
                  have o6 : OC w6 w.heap.size v6 (acc ++ [C]) := OC.more hown6
                  have hb6 : Below w.heap.size w w6 := (HB3.out.alloc HB3.out.size _).grown hg6 (by simp at hs3 ⊢; omega) (fun j hj => (World.ownsRow.lt HO3.out j hj).1)
                  have HG : Hid (RpRel w R (l2.length - sz) (.slice a5 (l2.length - sz) c5) v6 w6) := by
                    have hd := HD2.out
                    rw [hdl2] at hd
                    refine ⟨l2.drop sz, acc ++ [C], by omega, hd, by omega, by simp only [List.length_append, List.length_cons, List.length_nil]; omega, o6, ?_, hb6, HR.out.symm⟩
                    intro x hx
                    rcases List.mem_append.1 hx with h | h
                    · exact HK.out x h
                    · simp only [List.mem_cons, List.not_mem_nil, or_false] at h
                      subst h
                      exact hfs
                  go_roundg (l2.length - sz)
                  case measure => omega
                  case rel => exact HG
          · have hp := par_form (l := l) (by omega) (by omega) (by rw [HH.out, decide_eq_false (by omega)]; rfl)
            rw [hp]
            have hnb : ((n : Int) != (l.length : Int) - 8) = true := by simpa using hn8
            have hne : ((n : Int) == (l.length : Int) - 8) = false := by simpa using hn8
            clear hp HH hn8
            go_enter Try.func12, Try.ntmps12
            go_wp2_with fail
            refine (HC.out _ HS4.out).mono ?_
            rintro e w1 ⟨rfl, hb1⟩
            have HB1 : Hid _ := hb1
            clear hb1
            go_wp2_with fail
            go_ret2
            exact ⟨_, rfl, OC.nil _ _, fun c hc => by simp at hc, HB1.out⟩
end Go.Proofs.Ytifofcodmgglkaa
