/-
  What is made is parsed as it was; what is parsed is made byte for byte.
-/
import Derived.Test.YtifofcodmgglkaaIffMath
namespace Go.Proofs.Ytifofcodmgglkaa
set_option linter.unusedVariables false
set_option linter.unusedSimpArgs false

theorem ba_len (s : ByteArray) : s.data.toList.length = s.size := by simp
theorem ba_mk (s : ByteArray) : (⟨s.data.toList.toArray⟩ : ByteArray) = s := by cases s; simp
theorem okN_len {l : List UInt8} (h : okN l = true) : l.length = 4 := by
  unfold okN at h
  simp only [Bool.and_eq_true, decide_eq_true_eq] at h
  exact h.1
theorem zer_rep (n : Nat) : zerL (List.replicate n 0) = true := by
  simp [zerL, List.all_replicate]
theorem zer_inv {l : List UInt8} (h : zerL l = true) : l = List.replicate l.length 0 := by
  apply List.eq_replicate_of_mem
  intro b hb
  have := List.all_eq_true.1 h b hb
  simp only [decide_eq_true_eq] at this
  exact UInt8.toNat_inj.1 (by simpa using this)
theorem four_cnt {l : List UInt8} (h : 4 ≤ l.length) : four (cntL l) = l.take 4 := by
  match l, h with
  | a :: b :: c :: d :: r, _ =>
    have ha := a.toNat_lt
    have hb := b.toNat_lt
    have hc := c.toNat_lt
    have hd := d.toNat_lt
    simp only [four, cntL, List.getD_cons_zero, List.getD_cons_succ, List.take_succ_cons, List.take_zero, List.cons.injEq, and_true]
    refine ⟨UInt8.toNat_inj.1 ?_, UInt8.toNat_inj.1 ?_, UInt8.toNat_inj.1 ?_, UInt8.toNat_inj.1 ?_⟩
    all_goals (rw [u8n]; omega)

/-- A chunk's bytes begin with the chunk. -/
theorem fst_ckB {c : Ck} (h : okN c.1.data.toList = true) (hs : c.2.size < 4294967296) (r : List UInt8) : fstS (ckB c ++ r) = (c, ckL c, 0) := by
  have h4 := okN_len h
  have e0 : ckB c ++ r = c.1.data.toList ++ (four c.2.size ++ (c.2.data.toList ++ (List.replicate (mis c.2.size) 0 ++ r))) := by
    unfold ckB
    simp only [List.append_assoc]
  have t4 : (ckB c ++ r).take 4 = c.1.data.toList := by rw [e0, ← h4]; exact List.take_left
  have d4 : (ckB c ++ r).drop 4 = four c.2.size ++ (c.2.data.toList ++ (List.replicate (mis c.2.size) 0 ++ r)) := by
    have := List.drop_left (l₁ := c.1.data.toList) (l₂ := four c.2.size ++ (c.2.data.toList ++ (List.replicate (mis c.2.size) 0 ++ r)))
    rw [h4] at this
    rw [e0]; exact this
  have d8 : (ckB c ++ r).drop 8 = c.2.data.toList ++ (List.replicate (mis c.2.size) 0 ++ r) := by
    rw [show 8 = 4 + 4 from rfl, ← List.drop_drop, d4]
    rfl
  have hc : cntL ((ckB c ++ r).drop 4) = c.2.size := by rw [d4]; exact cnt_four _ hs _
  have hl : (ckB c ++ r).length = 8 + c.2.size + mis c.2.size + r.length := by
    rw [e0]
    simp only [List.length_append, four_len, List.length_replicate, h4, ba_len]
    omega
  have hz : ((ckB c ++ r).drop 8).drop c.2.size = List.replicate (mis c.2.size) 0 ++ r := by
    rw [d8, ← ba_len]
    exact List.drop_left
  unfold fstS
  rw [hc, if_neg (by omega), if_neg (by omega), hz, t4, h]
  have hz2 : (List.replicate (mis c.2.size) 0 ++ r).take (mis c.2.size) = List.replicate (mis c.2.size) (0 : UInt8) := by
    have := List.take_left (l₁ := List.replicate (mis c.2.size) (0 : UInt8)) (l₂ := r)
    rw [List.length_replicate] at this
    exact this
  rw [hz2, zer_rep, d8]
  have ht : (c.2.data.toList ++ (List.replicate (mis c.2.size) 0 ++ r)).take c.2.size = c.2.data.toList := by
    rw [← ba_len]; exact List.take_left
  rw [ht, ba_mk, ba_mk]
  rfl
theorem ckB_len' {c : Ck} (h : okN c.1.data.toList = true) : (ckB c).length = ckL c := by
  have h1 := okN_len h
  have h3 := ba_len c.2
  unfold ckB ckL
  simp only [List.length_append, four_len, List.length_replicate]
  omega
theorem ch_body : ∀ (r acc : List Ck), refS acc r = 0 → sizS r < 4294967296 → chS (bodyS r).length acc (bodyS r) = (acc ++ r, 0)
  | [], acc, _, _ => by simp [bodyS, chS]
  | c :: r, acc, h, hs => by
    unfold refS at h
    split at h
    · cases h
    · split at h
      · cases h
      · rename_i h1 h2
        have hok : okN c.1.data.toList = true := by simpa using h1
        have hh : hasN acc c.1 = false := by simpa using h2
        simp only [sizS, ckL] at hs
        have hf := fst_ckB hok (by omega) (bodyS r)
        have hne : bodyS (c :: r) ≠ [] := by
          intro e
          have := congrArg List.length e
          simp only [bodyS, List.length_append, ckB_len' hok, ckL, List.length_nil] at this
          omega
        have e : bodyS (c :: r) = ckB c ++ bodyS r := rfl
        have st := ch_step (acc := acc) hne (by rw [e, hf]) (by rw [e, hf]; exact hh)
        rw [st]
        have hd : (bodyS (c :: r)).drop (fstS (bodyS (c :: r))).2.1 = bodyS r := by
          rw [e, hf, ← ckB_len' hok]
          exact List.drop_left
        rw [hd, e, hf, ch_body r _ h (by omega)]
        simp
theorem fst_inv {l : List UInt8} (h : (fstS l).2.2 = 0) : l = ckB (fstS l).1 ++ l.drop (fstS l).2.1 ∧ (fstS l).2.1 = ckL (fstS l).1 := by
  unfold fstS at h
  split at h
  · simp at h
  · split at h
    · simp at h
    · split at h
      · rename_i h1 h2 h3
        have hF : fstS l = ((⟨(l.take 4).toArray⟩, ⟨((l.drop 8).take (cntL (l.drop 4))).toArray⟩), 8 + cntL (l.drop 4) + mis (cntL (l.drop 4)), 0) := by
          unfold fstS
          rw [if_neg h1, if_neg h2, if_pos h3]
        rw [hF]
        simp only [Bool.and_eq_true] at h3
        have hn : (⟨((l.drop 8).take (cntL (l.drop 4))).toArray⟩ : ByteArray).size = cntL (l.drop 4) := by
          show ((l.drop 8).take (cntL (l.drop 4))).length = _
          rw [List.length_take, List.length_drop]
          omega
        have hL : ckL (⟨(l.take 4).toArray⟩, ⟨((l.drop 8).take (cntL (l.drop 4))).toArray⟩) = 8 + cntL (l.drop 4) + mis (cntL (l.drop 4)) := by
          unfold ckL
          rw [hn]
        refine ⟨?_, hL.symm⟩
        unfold ckB
        simp only [hn]
        have hz := zer_inv h3.2
        have hzl : (((l.drop 8).drop (cntL (l.drop 4))).take (mis (cntL (l.drop 4)))).length = mis (cntL (l.drop 4)) := by
          rw [List.length_take, List.length_drop, List.length_drop]
          omega
        rw [hzl] at hz
        rw [← hz, four_cnt (by rw [List.length_drop]; omega)]
        have e1 : l = l.take 4 ++ ((l.drop 4).take 4 ++ ((l.drop 8).take (cntL (l.drop 4)) ++ (((l.drop 8).drop (cntL (l.drop 4))).take (mis (cntL (l.drop 4))) ++ l.drop (8 + cntL (l.drop 4) + mis (cntL (l.drop 4)))))) := by
          have a3 := List.take_append_drop (mis (cntL (l.drop 4))) ((l.drop 8).drop (cntL (l.drop 4)))
          rw [List.drop_drop, List.drop_drop] at a3
          have a2 := List.take_append_drop (cntL (l.drop 4)) (l.drop 8)
          have a1 := List.take_append_drop 4 (l.drop 4)
          rw [List.drop_drop] at a1 a2
          have a0 := List.take_append_drop 4 l
          rw [show 8 + cntL (l.drop 4) + mis (cntL (l.drop 4)) = 8 + (cntL (l.drop 4)) + mis (cntL (l.drop 4)) from rfl]
          rw [List.drop_drop, a3, a2, a1, a0]
        simpa only [List.append_assoc] using e1
      · simp at h
theorem ch_inv : ∀ (n : Nat) (l : List UInt8) (acc x : List Ck), l.length ≤ n → chS l.length acc l = (x, 0) → ∃ r, x = acc ++ r ∧ bodyS r = l ∧ refS acc r = 0
  | n, l, acc, x, hn, h => by
    by_cases h0 : l = []
    · subst h0
      simp only [List.length_nil, chS, Prod.mk.injEq, and_true] at h
      exact ⟨[], by simp [h], rfl, rfl⟩
    · by_cases h1 : (fstS l).2.2 = 0
      · cases h2 : hasN acc (fstS l).1.1
        · rw [ch_step h0 h1 h2] at h
          obtain ⟨i1, i2⟩ := fst_inv h1
          obtain ⟨k1, k2, k3⟩ := fst_ok h1
          have hlen : (l.drop (fstS l).2.1).length < l.length := by rw [List.length_drop]; omega
          match n, hn with
          | 0, hn => exact absurd (List.eq_nil_of_length_eq_zero (by omega)) h0
          | n + 1, hn =>
            obtain ⟨r, e1, e2, e3⟩ := ch_inv n _ _ x (by omega) h
            refine ⟨(fstS l).1 :: r, by rw [e1]; simp, ?_, ?_⟩
            · rw [show bodyS ((fstS l).1 :: r) = ckB (fstS l).1 ++ bodyS r from rfl, e2]
              exact i1.symm
            · unfold refS
              rw [if_neg (by rw [k3]; simp), if_neg (by rw [h2]; simp)]
              exact e3
        · rw [ch_twice h0 h1 h2] at h
          simp at h
      · rw [ch_wrong h0 h1] at h
        simp only [Prod.mk.injEq] at h
        exact absurd h.2 h1
theorem ref_ok : ∀ (l seen : List Ck), refS seen l = 0 → ∀ c ∈ l, okN c.1.data.toList = true
  | [], _, _, c, hc => by simp at hc
  | x :: r, seen, h, c, hc => by
    unfold refS at h
    split at h
    · cases h
    · split at h
      · cases h
      · rename_i h1 h2
        rcases List.mem_cons.1 hc with rfl | h3
        · simpa using h1
        · exact ref_ok r _ h c h3
theorem body_siz : ∀ (l : List Ck), (∀ c ∈ l, okN c.1.data.toList = true) → (bodyS l).length = sizS l
  | [], _ => rfl
  | c :: r, h => by
    simp only [bodyS, sizS, List.length_append]
    rw [ckB_len' (h c (by simp)), body_siz r (fun x hx => h x (by simp [hx]))]

/-- What a file that was made is. -/
theorem mak_ok {l : List Ck} (h : (makS l).2 = 0) : refS [] l = 0 ∧ 12 + sizS l ≤ 65536 ∧ (makS l).1 = markF ++ four (4 + sizS l) ++ markB ++ bodyS l ∧ (makS l).1.length = 12 + sizS l := by
  unfold makS at h ⊢
  split at h
  · rename_i h1; exact absurd h h1
  · split at h
    · simp at h
    · rename_i h1 h2
      have h1' : refS [] l = 0 := by simpa using h1
      rw [if_neg h1, if_neg h2]
      refine ⟨h1', by omega, rfl, ?_⟩
      simp only [List.length_append, four_len, body_siz l (ref_ok l [] h1'), markF, markB, List.length_cons, List.length_nil]
theorem file_parts (s : Nat) (b : List UInt8) : (markF ++ four s ++ markB ++ b).take 4 = markF ∧ (markF ++ four s ++ markB ++ b).drop 4 = four s ++ (markB ++ b) ∧ ((markF ++ four s ++ markB ++ b).drop 8).take 4 = markB ∧ (markF ++ four s ++ markB ++ b).drop 12 = b := by
  refine ⟨rfl, ?_, rfl, rfl⟩
  simp [markF]
/-- P5.4, first half. -/
theorem par_mak {l : List Ck} (h : (makS l).2 = 0) : parS (makS l).1 = (l, 0) := by
  obtain ⟨h1, h2, h3, h4⟩ := mak_ok h
  obtain ⟨p1, p2, p3, p4⟩ := file_parts (4 + sizS l) (bodyS l)
  have hh : headed (makS l).1 = true := by
    unfold headed
    rw [h4, h3, p1, p2, p3, cnt_four _ (by omega)]
    simp
    omega
  unfold parS
  rw [if_neg (by omega), if_neg (by omega), if_neg (by rw [hh]; simp), h3, p4]
  have := ch_body l [] h1 (by omega)
  simpa using this
/-- P5.4, second half. -/
theorem mak_par {b : List UInt8} {x : List Ck} (h : parS b = (x, 0)) : makS x = (b, 0) := by
  unfold parS at h
  split at h
  · simp at h
  · split at h
    · simp at h
    · split at h
      · simp at h
      · rename_i h1 h2 h3
        obtain ⟨r, e1, e2, e3⟩ := ch_inv _ _ _ _ (Nat.le_refl _) h
        simp only [List.nil_append] at e1
        subst e1
        have hs := body_siz x (ref_ok x [] e3)
        rw [e2, List.length_drop] at hs
        have hh : headed b = true := by simpa using h3
        unfold headed at hh
        simp only [Bool.and_eq_true, decide_eq_true_eq, beq_iff_eq] at hh
        obtain ⟨⟨a1, a2⟩, a3⟩ := hh
        unfold makS
        rw [if_neg (by simpa using e3), if_neg (by omega)]
        have hc : four (4 + sizS x) = (b.drop 4).take 4 := by
          rw [← four_cnt (by rw [List.length_drop]; omega), a3]
          congr 1
          omega
        rw [hc, ← a1, ← a2, e2]
        have b2 := List.take_append_drop 4 (b.drop 8)
        have b1 := List.take_append_drop 4 (b.drop 4)
        have b0 := List.take_append_drop 4 b
        rw [List.drop_drop] at b1 b2
        simp only [Nat.reduceAdd] at b1 b2
        simp only [List.append_assoc, Prod.mk.injEq, and_true]
        rw [b2, b1, b0]
end Go.Proofs.Ytifofcodmgglkaa
