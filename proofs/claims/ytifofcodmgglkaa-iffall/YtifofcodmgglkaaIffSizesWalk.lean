/-
  relictlaw05.IffSizes.
-/
import Derived.Test.YtifofcodmgglkaaIffStep
namespace Go.Proofs.Ytifofcodmgglkaa
open Go.RowKit Go.Maps
set_option linter.unusedVariables false
set_option linter.unusedSimpArgs false

/-- The loop's state: the chunks so far, the number of bytes so far. -/
def SzRel (w : World) (ss : List ByteArray) (k : Nat) (v : Value) (n : Nat) (wr : World) : Prop :=
  OC wr w.heap.size v (ckF 0 (ss.take k)) ∧ n = 12 + sizS (ckF 0 (ss.take k)) ∧ (∀ s ∈ ss.take k, s.size ≤ 2000) ∧ Below w.heap.size w wr

theorem take_snoc {ss : List ByteArray} {k : Nat} (h : k < ss.length) : ss.take (k + 1) = ss.take k ++ [ss[k]] := List.take_succ_eq_append_getElem h

set_option maxHeartbeats 8000000 in
theorem iffSizes_walk (v0 : Value) (ss : List ByteArray) (at1 : Int) (w : World) (h0 : Ss w v0 ss) (ha1 : -9223372036854775808 ≤ at1) (ha2 : at1 ≤ 9223372036854775807) :
    Calls Try.prog 6 #[v0, .int .i64 at1] w fun e w' => e = .returned (.bool true) ∧ Below w.heap.size w w' := by
  obtain ⟨a0, cap0, rfl, hc0, hm0, hn0⟩ := h0.shape
  obtain ⟨i0, hi, hz0, hz1, hz2⟩ := info_parts Try.infoCk
  have HS : Hid (SzRel w ss 0 (.slice none 0 0) 12 w) := ⟨OC.nil _ _, rfl, fun s hs => by simp at hs, Below.refl _ _⟩
  go_enter Try.func6, Try.ntmps6
  go_wp2_with fail
  go_loopg [5, 6, 7] 10 (fun gk s5 s6 s7 wr => ∃ (k n : Nat), k + gk = 10 ∧ k ≤ ss.length ∧ s6 = .int .i64 (n : Int) ∧ n ≤ 12 + k * 2011 ∧ s7 = .int .i64 (k : Int) ∧ Hid (SzRel w ss k s5 n wr))
  case atStart => exact ⟨0, 12, by omega, by omega, rfl, by omega, rfl, HS⟩
  case round =>
    obtain ⟨k, n, hk, hkl, rfl, hnn, rfl, HR⟩ := hrel
    clear HS
    by_cases hgo : k < ss.length ∧ k < 10
    · obtain ⟨g1, g2⟩ := hgo
      obtain ⟨g, rfl⟩ : ∃ g, gk = g + 1 := ⟨gk - 1, by omega⟩
      obtain ⟨o, hn, hsz, hbel⟩ := HR.out
      obtain ⟨b, off, rfl, hltw, hcw, hs1⟩ := h0.at k g1
      have hc1 := (hbel.cell (p := ⟨b, off + k, none⟩) hltw).trans hcw
      have hki : (k : Int) < (ss.length : Int) := by omega
      have hk10 : (k : Int) < 10 := by omega
      have htk := take_snoc g1
      obtain ⟨s, hsd⟩ : ∃ s, s = ss[k] := ⟨_, rfl⟩
      rw [← hsd] at hc1 hs1 htk hcw
      clear hsd
      by_cases t1 : (2000 : Int) < (s.size : Int)
      · have HB : Hid _ := hbel
        clear hbel o hn hsz HR htk
        go_wp2_with fail
        refine (awake_any _).mono ?_
        rintro e wa ⟨rfl, ba⟩
        have HA : Hid (Below w.heap.size w wa) := HB.out.trans (ba.mono HB.out.size)
        clear ba
        go_wp2_with fail
        go_ret
        exact ⟨rfl, HA.out⟩
      · have hb1 := (Below.refl wr.heap.size wr).alloc (Nat.le_refl _) (.cells #[.string (nmI k), .string s] 39)
        have hO1 : OC ((wr.alloc (.cells #[.string (nmI k), .string s] 39)).drew) w.heap.size u5 (ckF 0 (ss.take k)) := (o.under hb1).under ((Below.refl _ _).drew)
        have hB1 : Below w.heap.size w ((wr.alloc (.cells #[.string (nmI k), .string s] 39)).drew) := (hbel.alloc hbel.size _).drew
        have hnw : ∀ (j : Nat) (u : Value), [Value.string (nmI k), Value.string s][j]? = some u → ((wr.alloc (.cells #[.string (nmI k), .string s] 39)).drew).cell? ((⟨wr.heap.size, 0, none⟩ : Addr).add j) = some u := fun j u hj => two_new wr (nmI k, s) j u hj
        have hlen : (ckF 0 (ss.take k)).length = k := by rw [ckF_len]; simp; omega
        have hrow := hO1
        unfold OC at hrow
        rw [hlen] at hrow
        have HRow : Hid _ := hrow
        have HNw : Hid _ := hnw
        have HB1 : Hid _ := hB1
        have HN : Hid _ := hn
        have HSz : Hid _ := hsz
        have HTk : Hid _ := htk
        have HLen : Hid _ := hlen
        have hbs := hB1.size
        have hcut : ∀ (v' : Value) (w2 : World), w2.ownsRow w.heap.size 39 2 v' (k + 1) (cv (ckF 0 (ss.take k)) ++ [Value.string (nmI k), Value.string s]) → ((wr.alloc (.cells #[.string (nmI k), .string s] 39)).drew).grownBy w2 u5.ownBlock → SzRel w ss (k + 1) v' (n + 8 + (s.size + 3) / 4 * 4) w2 := by
          intro v' w2 r1 r2
          have e1 : ckF 0 (ss.take (k + 1)) = ckF 0 (ss.take k) ++ [(nmI k, s)] := by
            rw [htk, ckF_snoc]
            rw [show 0 + (ss.take k).length = k by simp; omega]
          refine ⟨?_, ?_, ?_, hB1.grown r2 hB1.size (fun j hj => (World.ownsRow.lt hO1 j hj).1)⟩
          · rw [e1]
            refine OC.more ?_
            rw [hlen]
            exact r1
          · rw [e1, siz_app, hn]
            have := up4 s.size
            simp only [sizS, ckL]
            omega
          · rw [htk]
            intro x hx
            rcases List.mem_append.1 hx with h | h
            · exact hsz x h
            · simp only [List.mem_cons, List.not_mem_nil, or_false] at h
              subst h
              omega
        have HCut : Hid _ := hcut
        clear hcut hrow hnw hn hsz htk hlen hO1 hB1 hb1 o hbel HR
        have hk1 : (k : Int) + 1 ≤ 10 := by omega
        have hw1 : IntKind.i64.wrap ((k : Int) + 1) = (k : Int) + 1 := by rw [IntKind.wrap_i64]; omega
        have hw2 : (0 : Int) ≤ (k : Int) + 1 := by omega
        have hw3 : (k : Int) ≤ (k : Int) + 1 := by omega
        have hw4 : ((k : Int) + 1).toNat = k + 1 := by omega
        have hw5 : min (k + 1) 10 = k + 1 := by omega
        go_wp2_with fail
        go_region_law (refine step_append_own rfl (.tmp 32) (.tmp 44) 23 rfl w.heap.size 39 i0 (.agg #[.string ⟨#[]⟩, .string ⟨#[]⟩]) 2 32 Try.underlying23 hi hz0 hz1 hz2 rfl (by decide) u5 _ _ (by simp [Act.eval, Act.put]) HRow.out ⟨wr.heap.size, 0, none⟩ 1 1 [.string (nmI k), .string s] (by simp [Act.eval, Act.put]) rfl HNw.out (by simp [Value.oneCell']) (by unfold maxLen; omega) (by omega) hbs ?_; intro v2 w2 hown2 hg2)
        have rel := HCut.out v2 w2 hown2 hg2
        have c2 := (rel.2.2.2.cell (p := ⟨b, off + k, none⟩) hltw).trans hcw
        have HG : Hid (SzRel w ss (k + 1) v2 (n + 8 + (s.size + 3) / 4 * 4) w2) := rel
        clear rel hown2 hg2 HCut
        have hsn : (s.size : Int) ≤ 2000 := by omega
        go_wp2_with fail
        go_roundg g
        case measure => omega
        case rel => exact ⟨k + 1, n + 8 + (s.size + 3) / 4 * 4, by omega, by omega, congrArg (Value.int .i64) (by omega), by omega, by go_num, HG⟩
    · obtain ⟨o, hn, hsz, hbel⟩ := HR.out
      have hkk : k = ss.length ∨ k = 10 := by omega
      have hlen : (ckF 0 (ss.take k)).length = k := by rw [ckF_len]; simp; omega
      have hsl : (ss.take k).length ≤ 10 := by simp; omega
      obtain ⟨m1, m2⟩ := mak_ckF hsl hsz
      have hckok : ckOk (ckF 0 (ss.take k)) := by
        intro c hc
        obtain ⟨i, hi2, rfl⟩ := List.getElem_of_mem hc
        rw [ckF_len] at hi2
        rw [ckF_at 0 (ss.take k) i hi2]
        refine ⟨?_, ?_⟩
        · rw [(nm_ok _ (by omega)).2.2]; decide
        · have := hsz _ (List.getElem_mem hi2)
          dsimp only
          omega
      have hch := o.ch hckok
      have HF1 : Hid (∀ i (hi2 : i < (ss.take k).length), finS (ckF 0 (ss.take k)) (nmI i) = ((ss.take k)[i], true)) := fun i hi2 => by
        have := fin_ckF 0 (ss.take k) i hi2 (by omega)
        rwa [Nat.zero_add] at this
      have HF2 : Hid ((finS (ckF 0 (ss.take k)) ⟨#[110, 111, 110, 101]⟩).2 = false) := fin_none 0 _ (by omega)
      have HAt : Hid (∀ i (hi2 : i < (ss.take k).length), (ckF 0 (ss.take k))[i]'(by rw [ckF_len]; exact hi2) = (nmI i, (ss.take k)[i])) := fun i hi2 => by
        have := ckF_at 0 (ss.take k) i hi2
        simpa using this
      have hcl : ((ckF 0 (ss.take k)).length : Int) ≤ 100000000000000 := by omega
      have HB : Hid _ := hbel
      have HSz : Hid _ := hsz
      rw [← hn] at m2
      obtain ⟨a5, c5, rfl, -, -, -⟩ := hch.shape
      rw [hlen] at hch ⊢
      obtain ⟨C, hC⟩ : ∃ C, C = ckF 0 (ss.take k) := ⟨_, rfl⟩
      rw [← hC] at m1 m2 hch hlen hcl HF2
      clear HR o hn hsz hbel hckok
      have hcases : (¬ ((k : Int) < (ss.length : Int))) ∨ ((k : Int) < (ss.length : Int) ∧ ¬ ((k : Int) < 10)) := by omega
      have hk10 : k ≤ 10 := by omega
      clear hkk
      rcases hcases with g1 | ⟨g1, g2⟩
      all_goals
        go_wp2_with fail
        refine (make_any _ C _ hch hcl).mono ?_
        rintro e w3 ⟨v3, rfl, o3, b3⟩
        rw [m1]
        obtain ⟨a3, c3, rfl, -, -, -⟩ := o3.by.shape
        rw [m2]
        have HB3 : Hid (Below w.heap.size w w3) := HB.out.trans (b3.mono HB.out.size)
        have hch3 := hch.under b3
        clear o3 b3 hch HB
        by_cases hk0 : k = 0
        · subst hk0
          go_wp2_with fail
          refine (awake_any _).mono ?_
          rintro e wa ⟨rfl, ba⟩
          have HA : Hid (Below w.heap.size w wa) := HB3.out.trans (ba.mono HB3.out.size)
          clear ba
          go_wp2_with fail
          go_ret
          exact ⟨rfl, HA.out⟩
        · have hk0i : (0 : Int) < (k : Int) := by omega
          go_wp2_with fail
          refine (place_any at1 (k : Int) _ hk0i (by omega) ha1 ha2).mono ?_
          rintro e w4 ⟨rfl, rfl⟩
          obtain ⟨q, hq⟩ := Int.eq_ofNat_of_zero_le (Int.emod_nonneg at1 (show (k : Int) ≠ 0 by omega))
          have hqk : (q : Int) < (k : Int) := by rw [← hq]; exact Int.emod_lt_of_pos _ hk0i
          rw [hq]
          have hqt : q < (ss.take k).length := by simp; omega
          have hqs : q < ss.length := by omega
          have hqC : q < C.length := by omega
          obtain ⟨b, off, rfl, hlt, p1, -⟩ := hch3.at q hqC
          have hCq : C[q].1 = nmI q := by
            have := HAt.out q hqt
            subst hC
            rw [this]
          rw [hCq] at p1
          obtain ⟨b0, off0, rfl, hltw, hcw, -⟩ := h0.at q hqs
          have hqsi : (q : Int) < (ss.length : Int) := by omega
          have HFq : Hid (finS C (nmI q) = (ss[q], true)) := by
            have := HF1.out q hqt
            subst hC
            unfold Hid
            rw [this, List.getElem_take]
          obtain ⟨X, hX⟩ : ∃ X, X = ss[q] := ⟨_, rfl⟩
          rw [← hX] at hcw HFq
          clear hX hCq hq
          go_wp2_with fail
          refine (find_any _ C (nmI q) _ hch3).mono ?_
          rw [HFq.out]
          rintro e w5 ⟨rfl, b5⟩
          have HB5 : Hid (Below w.heap.size w w5) := HB3.out.trans (b5.mono HB3.out.size)
          have hch5 := hch3.under b5
          clear b5 hch3 HB3
          go_wp2_with fail
          refine (find_any _ C ⟨#[110, 111, 110, 101]⟩ _ hch5).mono ?_
          rw [HF2.out]
          rintro e w6 ⟨rfl, b6⟩
          have HB6 : Hid (Below w.heap.size w w6) := HB5.out.trans (b6.mono HB5.out.size)
          have c6 := (HB6.out.cell (p := ⟨b0, off0 + q, none⟩) hltw).trans hcw
          clear b6 hch5 HB5
          go_wp2_with fail
          refine (awake_any _).mono ?_
          rintro e wa ⟨rfl, ba⟩
          have HA : Hid (Below w.heap.size w wa) := HB6.out.trans (ba.mono HB6.out.size)
          clear ba
          go_wp2_with fail
          go_ret
          exact ⟨rfl, HA.out⟩
end Go.Proofs.Ytifofcodmgglkaa
