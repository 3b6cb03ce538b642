/-
  relictref05.one.
-/
import Derived.Test.YtifofcodmgglkaaIffRefA
import Derived.Test.YtifofcodmgglkaaIffMathC
namespace Go.Proofs.Ytifofcodmgglkaa
open Go.RowKit Go.Maps
set_option linter.unusedVariables false
set_option linter.unusedSimpArgs false

theorem results_one {fn : Func} {q u u2 : Tmp} (h : fn.results = #[.cell q 39, .tmp u, .tmp u2]) (tmps : Array Value) (w : World) (g : Nat) (c : Ck) (hq : tmps.getD q undef = .pointer (some ⟨g, 0, none⟩)) (hb : BxC w g c) :
    (results fn tmps).run Try.prog w = .ok (.tuple #[.agg #[.string c.1, .string c.2], tmps.getD u undef, tmps.getD u2 undef]) w := results_ck3 h tmps w g c hq hb

def OnePost (w : World) (v : Value) (l : List UInt8) (acc : List Ck) (e : Ending) (w' : World) : Prop :=
  ∃ (C : Ck) (vr : Value) (E : Int), e = .returned (.tuple #[.agg #[.string C.1, .string C.2], vr, .int .i64 E]) ∧ Below w.heap.size w w' ∧
    ((E ≠ 0 ∧ chS l.length acc l = ([], E)) ∨ (E = 0 ∧ C = (fstS l).1 ∧ (fstS l).2.2 = 0 ∧ hasN acc C.1 = false ∧ ∀ W, By W v l → By W vr (l.drop (fstS l).2.1)))

theorem zer_more {l : List UInt8} {i : Nat} {f : Int} (hf : 0 ≤ f) (hi : i < l.length) (h : f = 0 ↔ zerL (l.take i) = true) : f + ((l.getD i 0).toNat : Int) = 0 ↔ zerL (l.take (i + 1)) = true := by
  rw [List.take_succ_eq_append_getElem hi]
  have e : l.getD i 0 = l[i] := by simp [List.getD, hi]
  rw [e]
  unfold zerL at h ⊢
  rw [List.all_append, Bool.and_eq_true, ← h]
  simp only [List.all_cons, List.all_nil, Bool.and_true, decide_eq_true_eq]
  omega

set_option maxHeartbeats 8000000 in
theorem rone_any (v vl : Value) (l : List UInt8) (acc : List Ck) (w : World) (h : By w v l) (hA : Ch w vl acc) (h0 : l ≠ []) (hl : (l.length : Int) ≤ 1000000) : Calls Try.prog 22 #[v, vl] w fun e w' => OnePost w v l acc e w' := by
  obtain ⟨a, cap, rfl, hc, hm, hn⟩ := h.shape
  have hl0 : 0 < l.length := List.length_pos_iff.2 h0
  by_cases h8 : (l.length : Int) < 8
  · have HF : Hid (chS l.length acc l = ([], 3)) := by
      have e : fstS l = (ckZ, 0, 3) := by
        unfold fstS
        rw [if_pos (by omega)]
      have := ch_wrong (acc := acc) h0 (by rw [e]; decide)
      rw [e] at this
      exact this
    clear h0
    go_enter Try.func22, Try.ntmps22
    go_wp2_with fail
    exact bodyPost_ret (results_ck3 rfl _ _ w.heap.size ckZ rfl (BxC.new w ckZ)) rfl ⟨ckZ, _, 3, rfl, (Below.refl _ _).alloc (Nat.le_refl _) _, .inl ⟨by decide, HF.out⟩⟩
  · obtain ⟨b, off, rfl, hlt, -⟩ := h.at 0 (by omega)
    have bA := (Below.refl w.heap.size w).alloc (Nat.le_refl _) (.cells #[.string ckZ.1, .string ckZ.2] 39)
    have hA' := h.under bA
    have s4 := By.take (hA'.drop 4 (by omega)) 4 (cap - 4) (by simp; omega) (by omega) (Nat.le_refl _)
    have hct := cnt_lt (l.drop 4)
    have HC : Hid (∀ W : World, By W (.slice (some ⟨b, off + 4, none⟩) 4 (cap - 4)) ((l.drop 4).take 4) → Calls Try.prog 21 #[.slice (some ⟨b, off + 4, none⟩) 4 (cap - 4)] W fun e w' => e = .returned (.int .i64 (cntL (l.drop 4) : Int)) ∧ Below W.heap.size W w') := fun W hW => by
      have := rnumber_any _ _ W hW (by simp; omega)
      have e : cntL ((l.drop 4).take 4) = cntL (l.drop 4) := by
        unfold cntL
        rw [getD_take _ _ _ (by omega), getD_take _ _ _ (by omega), getD_take _ _ _ (by omega), getD_take _ _ _ (by omega)]
      rw [e] at this
      exact this
    have h8' : (8 : Int) ≤ (l.length : Int) := by omega
    have ic8 : (8 : Int) ≤ (cap : Int) := by omega
    obtain ⟨n, hnn⟩ : ∃ n, n = cntL (l.drop 4) := ⟨_, rfl⟩
    rw [← hnn] at HC hct
    have HNN : Hid (n = cntL (l.drop 4)) := hnn
    clear hnn
    go_enter Try.func22, Try.ntmps22
    go_wp2_with fail
    refine (HC.out _ s4).mono ?_
    rintro e w1 ⟨rfl, b1⟩
    have bw1 : Below w.heap.size w w1 := bA.trans (b1.mono (by simp))
    have HX1 : Hid (BxC w1 w.heap.size ckZ) := (BxC.new w ckZ).under b1
    have h1 := h.under bw1
    have HBW : Hid _ := bw1
    clear s4 b1 HC bA hA' bw1 hn
    obtain ⟨q, hq⟩ : ∃ q, q = mis n := ⟨_, rfl⟩
    have hq4 := mis_lt n
    have hup := up4 n
    rw [← hq] at hq4 hup
    have HQ : Hid (q = mis n) := hq
    clear hq
    have hall : ((n : Int) + 3) / 4 * 4 = (n : Int) + (q : Int) := by omega
    clear hup
    obtain ⟨x0, x1, f0, f1⟩ := HX1.out.facts
    by_cases t2 : (l.length : Int) - 8 < (n : Int) + (q : Int)
    · have HF : Hid (chS l.length acc l = ([], 3)) := by
        have e := fst_short HNN.out (by omega) (by rw [← HQ.out]; omega)
        have := ch_wrong (acc := acc) h0 (by rw [e]; decide)
        rw [e] at this
        exact this
      clear h0
      go_wp2_with fail
      refine bodyPost_ret (results_ck3 rfl _ _ w.heap.size ckZ rfl (HX1.out.set _ _)) rfl ⟨ckZ, _, 3, rfl, (HBW.out.setCell (Nat.le_refl _) _).setCell (Nat.le_refl _) _, .inl ⟨by decide, HF.out⟩⟩
    · have hn2 : (n : Int) + (q : Int) ≤ (l.length : Int) - 8 := by omega
      obtain ⟨NM, hNM⟩ : ∃ NM : ByteArray, NM = ⟨(l.take 4).toArray⟩ := ⟨_, rfl⟩
      obtain ⟨DT, hDT⟩ : ∃ DT : ByteArray, DT = ⟨((l.drop 8).take n).toArray⟩ := ⟨_, rfl⟩
      obtain ⟨ob, hob⟩ : ∃ ob, ob = if cap = 8 then off else off + 8 := ⟨_, rfl⟩
      have hP8 : (if cap = 8 then some (⟨b, off, none⟩ : Addr) else some ⟨b, off + 8, none⟩) = some ⟨b, ob, none⟩ := by rw [hob]; split <;> rfl
      have s8 := h1.dropI 8 ob (by omega) hob
      have t1 : (convert 22 9 (.slice (some ⟨b, off, none⟩) 4 cap)).run Try.prog w1.drew = .ok (.string NM) w1.drew := by rw [hNM]; exact ((h1.under (Below.refl _ _).drew).take 4 cap (by omega) (by omega) (Nat.le_refl _)).text
      have t3 : (convert 22 9 (.slice (some ⟨b, ob, none⟩) n (cap - 8))).run Try.prog w1.drew = .ok (.string DT) w1.drew := by rw [hDT]; exact (By.take (s8.under (Below.refl _ _).drew) n (cap - 8) (by simp; omega) (by omega) (Nat.le_refl _)).text
      have bA2 := ((Below.refl w1.heap.size w1).alloc (Nat.le_refl _) (.cells #[.string ⟨#[]⟩, .string ⟨#[]⟩] 39)).drew
      have t1' : (convert 22 9 (.slice (some ⟨b, off, none⟩) 4 cap)).run Try.prog (w1.alloc (.cells #[.string ⟨#[]⟩, .string ⟨#[]⟩] 39)).drew = .ok (.string NM) (w1.alloc (.cells #[.string ⟨#[]⟩, .string ⟨#[]⟩] 39)).drew := by rw [hNM]; exact ((h1.under bA2).take 4 cap (by omega) (by omega) (Nat.le_refl _)).text
      have t3' : (convert 22 9 (.slice (some ⟨b, ob, none⟩) n (cap - 8))).run Try.prog (w1.alloc (.cells #[.string ⟨#[]⟩, .string ⟨#[]⟩] 39)).drew = .ok (.string DT) (w1.alloc (.cells #[.string ⟨#[]⟩, .string ⟨#[]⟩] 39)).drew := by rw [hDT]; exact (By.take (s8.under bA2) n (cap - 8) (by simp; omega) (by omega) (Nat.le_refl _)).text
      have HNM : Hid (NM = ⟨(l.take 4).toArray⟩) := hNM
      have HDT : Hid (DT = ⟨((l.drop 8).take n).toArray⟩) := hDT
      have i1 : (8 : Int) + (n : Int) ≤ (l.length : Int) := by omega
      have i2 : (8 : Int) + (n : Int) ≤ (cap : Int) := by omega
      have i3 : (8 : Int) ≤ 8 + (n : Int) := by omega
      have i4 : (4 : Int) ≤ (cap : Int) := by omega
      have i5 : IntKind.i64.wrap (8 + (n : Int)) = 8 + (n : Int) := by rw [IntKind.wrap_i64]; omega
      have i6 : (0 : Int) ≤ 8 + (n : Int) := by omega
      have i7 : ((8 : Int) + (n : Int)).toNat = 8 + n := by omega
      have i8 : (8 : Int) + (n : Int) - 8 = (n : Int) := by omega
      clear hob hNM hDT s8 hc hm bA2
      have HB2 : Hid (Below w.heap.size w (w1.alloc (.cells #[.string NM, .string DT] 39)).drew) := (HBW.out.alloc HBW.out.size _).drew
      have HX2 : Hid (BxC (w1.alloc (.cells #[.string NM, .string DT] 39)).drew w.heap.size ckZ) := HX1.out.under ((Below.refl _ _).alloc (Nat.le_refl _) _).drew
      have HY2 : Hid (BxC (w1.alloc (.cells #[.string NM, .string DT] 39)).drew w1.heap.size (NM, DT)) := (BxC.new w1 (NM, DT)).under (Below.refl _ _).drew
      go_wp2_with fail
      go_region
      all_goals
        generalize (w1.alloc (.cells #[.string NM, .string DT] 39)).drew = w2 at *
        have h2 := h.under HB2.out
        have hA2 := hA.under HB2.out
        obtain ⟨x0, x1, f0, f1⟩ := HX2.out.facts
        obtain ⟨y0, y1, -, -⟩ := HY2.out.facts
        clear t1 t3 t1' t3' hP8 i1 i2 i3 i4 i5 i6 i7 i8 h1 HX1 HBW ic8
        generalize w1.heap.size = gC at *
        have hdl : ((l.drop 8).drop n).length = l.length - 8 - n := by simp; omega
        go_wp2_with fail
        go_loopg [10, 11] q (fun gk s10 s11 wr => ∃ (i : Nat) (f : Int), i + gk = n + q ∧ n ≤ i ∧ s10 = .int .i64 f ∧ 0 ≤ f ∧ f ≤ 255 * ((i : Int) - (n : Int)) ∧ s11 = .int .i64 (i : Int) ∧ wr = w2 ∧ Hid (f = 0 ↔ zerL (((l.drop 8).drop n).take (i - n)) = true))
        case atStart => exact ⟨n, 0, by omega, Nat.le_refl _, rfl, by omega, by omega, rfl, rfl, by unfold Hid; simp [zerL]⟩
        case round =>
          obtain ⟨i, f, hi, hni, rfl, hf0, hf1, rfl, rfl, HZ⟩ := hrel
          cases gk with
          | succ gk =>
            obtain ⟨b', off', he, -, hcell⟩ := h2.at (8 + i) (by omega)
            simp at he
            obtain ⟨rfl, rfl⟩ := he
            have hcx := hcell (8 + i) (by omega)
            clear hcell
            have hbx := ubd l (8 + i)
            have HM : Hid (f + ((l.getD (8 + i) 0).toNat : Int) = 0 ↔ zerL (((l.drop 8).drop n).take (i + 1 - n)) = true) := by
              have := zer_more (l := (l.drop 8).drop n) (i := i - n) hf0 (by omega) HZ.out
              rw [getD_drop, getD_drop, show 8 + (n + (i - n)) = 8 + i by omega, show i - n + 1 = i + 1 - n by omega] at this
              exact this
            generalize ((l.getD (8 + i) 0).toNat : Int) = x at *
            have j1 : (i : Int) < (n : Int) + (q : Int) := by omega
            have j2 : (8 : Int) + (i : Int) < (l.length : Int) := by omega
            clear HZ
            go_wp2_with fail
            go_roundg gk
            case measure => omega
            case rel => exact ⟨i + 1, f + x, by omega, by omega, by go_num, by omega, by omega, by go_num, rfl, HM⟩
          | zero =>
            obtain rfl : i = n + q := by omega
            have HZ2 : Hid (f = 0 ↔ zerL (((l.drop 8).drop n).take q) = true) := by
              have := HZ.out
              rwa [show n + q - n = q by omega] at this
            clear HZ
            have HNS : Hid (¬ l.length < 8 + n + mis n) := by unfold Hid; rw [← HQ.out]; omega
            have HNL : Hid (NM.data.toList = l.take 4) := by unfold Hid; rw [HNM.out]
            have hNMs : (NM.size : Int) ≤ 140737488355328 := by
              have : NM.data.toList.length = NM.size := by simp
              rw [HNL.out] at this
              simp at this
              omega
            have hnq : ((n + q : Nat) : Int) = (n : Int) + (q : Int) := by omega
            go_wp2_with fail
            refine (rname_any NM _ hNMs).mono ?_
            rintro e w3 ⟨rfl, rfl⟩
            rw [HNL.out]
            cases ho : okN (l.take 4)
            · have HF : Hid (chS l.length acc l = ([], 4)) := by
                have e := fst_bad HNN.out (by omega) HNS.out (.inl ho)
                have := ch_wrong (acc := acc) h0 (by rw [e]; decide)
                rw [e] at this
                exact this
              clear ho h0
              go_wp2_with fail
              refine bodyPost_ret (results_ck3 rfl _ _ w.heap.size ckZ rfl (HX2.out.set _ _)) rfl ⟨ckZ, _, 4, rfl, (HB2.out.setCell (Nat.le_refl _) _).setCell (Nat.le_refl _) _, .inl ⟨by decide, HF.out⟩⟩
            · by_cases hf : (0 : Int) < f
              · have HF : Hid (chS l.length acc l = ([], 4)) := by
                  have hz : zerL (((l.drop 8).drop n).take (mis n)) = false := by
                    rw [← HQ.out, Bool.eq_false_iff]
                    intro e
                    have := HZ2.out.2 e
                    omega
                  have e := fst_bad HNN.out (by omega) HNS.out (.inr hz)
                  have := ch_wrong (acc := acc) h0 (by rw [e]; decide)
                  rw [e] at this
                  exact this
                clear ho h0
                go_wp2_with fail
                refine bodyPost_ret (results_ck3 rfl _ _ w.heap.size ckZ rfl (HX2.out.set _ _)) rfl ⟨ckZ, _, 4, rfl, (HB2.out.setCell (Nat.le_refl _) _).setCell (Nat.le_refl _) _, .inl ⟨by decide, HF.out⟩⟩
              · obtain rfl : f = 0 := by omega
                have hg := fst_good HNN.out (by omega) HNS.out ho (by rw [← HQ.out]; exact HZ2.out.1 rfl)
                rw [← HNM.out, ← HDT.out, ← HQ.out] at hg
                have HG : Hid (fstS l = ((NM, DT), 8 + n + q, 0)) := hg
                clear ho hg HZ2 hf
                go_wp2_with fail
                refine (rfind_any _ acc NM _ hA2).mono ?_
                rw [fin_has]
                rintro e w4 ⟨rfl, rfl⟩
                cases hh : hasN acc NM
                · have HH : Hid _ := hh
                  clear hh h0
                  obtain ⟨S, hS⟩ : ∃ S : Nat, S = 8 + (n + q) := ⟨_, rfl⟩
                  have hS0 : (8 : Int) + ((n : Int) + (q : Int)) = (S : Int) := by omega
                  have hS1 : IntKind.i64.wrap (S : Int) = (S : Int) := by rw [IntKind.wrap_i64]; omega
                  have hS2 : (S : Int) ≤ (l.length : Int) := by omega
                  have hcl : (l.length : Int) ≤ (cap : Int) := by obtain ⟨a', c', he, h1, -⟩ := h; simp at he; omega
                  have hS3 : (S : Int) ≤ (cap : Int) := by omega
                  have hSl : S ≤ l.length := by omega
                  obtain ⟨ob2, hob2⟩ : ∃ ob2, ob2 = if cap = S then off else off + S := ⟨_, rfl⟩
                  have hPS : (if cap = S then some (⟨b, off, none⟩ : Addr) else some ⟨b, off + S, none⟩) = some ⟨b, ob2, none⟩ := by rw [hob2]; split <;> rfl
                  have HD : Hid (∀ W, By W (.slice (some ⟨b, off, none⟩) l.length cap) l → By W (.slice (some ⟨b, ob2, none⟩) (l.length - S) (cap - S)) (l.drop S)) := fun W hW => hW.dropI S ob2 hSl hob2
                  have HSS : Hid (S = 8 + n + q) := by unfold Hid; omega
                  clear hS hob2
                  have HXd : Hid (BxC w4.drew w.heap.size ckZ) := HX2.out.under (Below.refl _ _).drew
                  obtain ⟨z0, z1, g0, g1⟩ := HXd.out.facts
                  have HYd : Hid (BxC w4.drew gC (NM, DT)) := HY2.out.under (Below.refl _ _).drew
                  obtain ⟨v0, v1, -, -⟩ := HYd.out.facts
                  go_wp2_with fail
                  go_region
                  all_goals
                    go_wp2_with fail
                    refine bodyPost_ret (results_ck3 rfl _ _ w.heap.size (NM, DT) rfl (BxC.under (HX2.out.set NM DT) (Below.refl _ _).drew)) rfl ⟨(NM, DT), _, 0, rfl, ((HB2.out.setCell (Nat.le_refl _) _).setCell (Nat.le_refl _) _).drew, .inr ⟨rfl, by rw [HG.out], by rw [HG.out], HH.out, ?_⟩⟩
                    have e : (fstS l).2.1 = S := by rw [HG.out]; exact HSS.out.symm
                    rw [e]
                    exact HD.out
                · have HF : Hid (chS l.length acc l = ([], 6)) := ch_twice h0 (by rw [HG.out]) (by rw [HG.out]; exact hh)
                  clear hh h0
                  go_wp2_with fail
                  refine bodyPost_ret (results_ck3 rfl _ _ w.heap.size ckZ rfl (HX2.out.set _ _)) rfl ⟨ckZ, _, 6, rfl, (HB2.out.setCell (Nat.le_refl _) _).setCell (Nat.le_refl _) _, .inl ⟨by decide, HF.out⟩⟩
end Go.Proofs.Ytifofcodmgglkaa
