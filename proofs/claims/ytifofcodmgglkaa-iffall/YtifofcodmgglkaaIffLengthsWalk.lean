/-
  relictlaw05.IffLengths.
-/
import Derived.Test.YtifofcodmgglkaaIffSizesWalk
namespace Go.Proofs.Ytifofcodmgglkaa
open Go.RowKit Go.Maps
set_option linter.unusedVariables false
set_option linter.unusedSimpArgs false

/-- A byte of a row of the call's own is written. -/
theorem OB.set {w : World} {base g cap n : Nat} {l : List UInt8} (h : OB w base (.slice (some ⟨g, 0, none⟩) n cap) l) (i : Nat) (hi : i < l.length) (z : Int) (b : UInt8) (hz : z = (b.toNat : Int)) : OB (w.setCell ⟨g, i, none⟩ (.int .u8 z)) base (.slice (some ⟨g, 0, none⟩) n cap) (l.set i b) := by
  obtain ⟨h1, h2⟩ := h
  rcases h2 with ⟨he, _⟩ | ⟨g', cap', cur, he, hb, hh, hn, hm, hs, ht⟩
  · simp at he
  · simp only [Value.slice.injEq, Option.some.injEq, Addr.mk.injEq, and_true] at he
    obtain ⟨rfl, rfl, rfl⟩ := he
    refine ⟨by simp [bv_len], .inr ⟨g, cap, cur.setIfInBounds i (.int .u8 z), by simp, hb, ?_, by simpa using hn, hm, by simpa using hs, ?_⟩⟩
    · simp [World.setCell, Array.getElem?_modify, hh]
    · simp only [Nat.mul_one] at ht ⊢
      rw [List.length_set, Array.toList_setIfInBounds, List.take_set, ht, hz]
      simp [bv, List.map_set]
theorem OB.facts {w : World} {base g cap n : Nat} {l : List UInt8} (h : OB w base (.slice (some ⟨g, 0, none⟩) n cap) l) (i : Nat) (hi : i < l.length) : w.cell? ⟨g, i, none⟩ = some (.int .u8 ((l.getD i 0).toNat : Int)) ∧ w.frozen? ⟨g, i, none⟩ = false := by
  obtain ⟨b, off, he, -, hc⟩ := h.by.at i hi
  simp at he
  obtain ⟨rfl, rfl⟩ := he
  refine ⟨by have := hc i hi; rwa [Nat.zero_add] at this, ?_⟩
  rcases h.2 with ⟨he, _⟩ | ⟨g', cap', cur, he, hb, hh, hn, hm, hs, ht⟩
  · simp at he
  · simp only [Value.slice.injEq, Option.some.injEq, Addr.mk.injEq, and_true] at he
    obtain ⟨rfl, -⟩ := he
    simp [World.frozen?, hh]
theorem OB.shape {w : World} {base : Nat} {v : Value} {l : List UInt8} (h : OB w base v l) (h0 : 0 < l.length) : ∃ g cap, v = .slice (some ⟨g, 0, none⟩) l.length cap ∧ base ≤ g ∧ l.length ≤ cap ∧ (cap : Int) ≤ 9223372036854775807 := by
  rcases h.2 with ⟨rfl, h3⟩ | ⟨g, cap, cur, rfl, hb, hh, hn, hm, _⟩
  · omega
  · exact ⟨g, cap, rfl, hb, hn, by unfold maxLen at hm; omega⟩

set_option maxHeartbeats 8000000 in
theorem iffLengths_walk (v0 : Value) (ss : List ByteArray) (x1 : Nat) (w : World) (h0 : Ss w v0 ss) (hx1 : (x1 : Int) ≤ 4294967295) :
    Calls Try.prog 7 #[v0, .int .u32 (x1 : Int)] w fun e w' => e = .returned (.bool true) ∧ Below w.heap.size w w' := by
  obtain ⟨a0, cap0, rfl, hc0, hm0, hn0⟩ := h0.shape
  obtain ⟨i0, hi, hz0, hz1, hz2⟩ := info_parts Try.infoCk
  have HS : Hid (SzRel w ss 0 (.slice none 0 0) 12 w) := ⟨OC.nil _ _, rfl, fun s hs => by simp at hs, Below.refl _ _⟩
  go_enter Try.func7, Try.ntmps7
  go_wp2_with fail
  go_loopg [5, 6] 5 (fun gk s5 s6 wr => ∃ (k n : Nat), k + gk = 5 ∧ k ≤ ss.length ∧ s6 = .int .i64 (k : Int) ∧ Hid (SzRel w ss k s5 n wr))
  case atStart => exact ⟨0, 12, by omega, by omega, rfl, HS⟩
  case round =>
    obtain ⟨k, n, hk, hkl, rfl, HR⟩ := hrel
    clear HS
    by_cases hgo : k < ss.length ∧ k < 5
    · obtain ⟨g1, g2⟩ := hgo
      obtain ⟨g, rfl⟩ : ∃ g, gk = g + 1 := ⟨gk - 1, by omega⟩
      obtain ⟨o, hn, hsz, hbel⟩ := HR.out
      obtain ⟨b, off, rfl, hltw, hcw, hs1⟩ := h0.at k g1
      have hc1 := (hbel.cell (p := ⟨b, off + k, none⟩) hltw).trans hcw
      have hki : (k : Int) < (ss.length : Int) := by omega
      have hk10 : (k : Int) < 5 := by omega
      have htk := take_snoc g1
      obtain ⟨s, hsd⟩ : ∃ s, s = ss[k] := ⟨_, rfl⟩
      rw [← hsd] at hc1 hs1 htk hcw
      clear hsd
      by_cases t1 : (500 : Int) < (s.size : Int)
      · have HB : Hid _ := hbel
        clear hbel o hn hsz HR htk
        go_wp2_with fail
        refine (awake_any _).mono ?_
        rintro e wa ⟨rfl, ba⟩
        have HA : Hid (Below w.heap.size w wa) := HB.out.trans (ba.mono HB.out.size)
        clear ba
        go_wp2_with fail
        go_ret
        exact ⟨rfl, HA.out⟩
      · have hb1 := (Below.refl wr.heap.size wr).alloc (Nat.le_refl _) (.cells #[.string (nmI k), .string s] 39)
        have hO1 : OC ((wr.alloc (.cells #[.string (nmI k), .string s] 39)).drew) w.heap.size u5 (ckF 0 (ss.take k)) := (o.under hb1).under ((Below.refl _ _).drew)
        have hB1 : Below w.heap.size w ((wr.alloc (.cells #[.string (nmI k), .string s] 39)).drew) := (hbel.alloc hbel.size _).drew
        have hnw : ∀ (j : Nat) (u : Value), [Value.string (nmI k), Value.string s][j]? = some u → ((wr.alloc (.cells #[.string (nmI k), .string s] 39)).drew).cell? ((⟨wr.heap.size, 0, none⟩ : Addr).add j) = some u := fun j u hj => two_new wr (nmI k, s) j u hj
        have hlen : (ckF 0 (ss.take k)).length = k := by rw [ckF_len]; simp; omega
        have hrow := hO1
        unfold OC at hrow
        rw [hlen] at hrow
        have HRow : Hid _ := hrow
        have HNw : Hid _ := hnw
        have HB1 : Hid _ := hB1
        have HN : Hid _ := hn
        have HSz : Hid _ := hsz
        have HTk : Hid _ := htk
        have HLen : Hid _ := hlen
        have hbs := hB1.size
        have hcut : ∀ (v' : Value) (w2 : World), w2.ownsRow w.heap.size 39 2 v' (k + 1) (cv (ckF 0 (ss.take k)) ++ [Value.string (nmI k), Value.string s]) → ((wr.alloc (.cells #[.string (nmI k), .string s] 39)).drew).grownBy w2 u5.ownBlock → SzRel w ss (k + 1) v' (n + 8 + (s.size + 3) / 4 * 4) w2 := by
          intro v' w2 r1 r2
          have e1 : ckF 0 (ss.take (k + 1)) = ckF 0 (ss.take k) ++ [(nmI k, s)] := by
            rw [htk, ckF_snoc]
            rw [show 0 + (ss.take k).length = k by simp; omega]
          refine ⟨?_, ?_, ?_, hB1.grown r2 hB1.size (fun j hj => (World.ownsRow.lt hO1 j hj).1)⟩
          · rw [e1]
            refine OC.more ?_
            rw [hlen]
            exact r1
          · rw [e1, siz_app, hn]
            have := up4 s.size
            simp only [sizS, ckL]
            omega
          · rw [htk]
            intro x hx
            rcases List.mem_append.1 hx with h | h
            · exact hsz x h
            · simp only [List.mem_cons, List.not_mem_nil, or_false] at h
              subst h
              omega
        have HCut : Hid _ := hcut
        clear hcut hrow hnw hn hsz htk hlen hO1 hB1 hb1 o hbel HR
        have hk1 : (k : Int) + 1 ≤ 10 := by omega
        have hw1 : IntKind.i64.wrap ((k : Int) + 1) = (k : Int) + 1 := by rw [IntKind.wrap_i64]; omega
        have hw2 : (0 : Int) ≤ (k : Int) + 1 := by omega
        have hw3 : (k : Int) ≤ (k : Int) + 1 := by omega
        have hw4 : ((k : Int) + 1).toNat = k + 1 := by omega
        have hw5 : min (k + 1) 10 = k + 1 := by omega
        go_wp2_with fail
        go_region_law (refine step_append_own rfl (.tmp 29) (.tmp 41) 23 rfl w.heap.size 39 i0 (.agg #[.string ⟨#[]⟩, .string ⟨#[]⟩]) 2 32 Try.underlying23 hi hz0 hz1 hz2 rfl (by decide) u5 _ _ (by simp [Act.eval, Act.put]) HRow.out ⟨wr.heap.size, 0, none⟩ 1 1 [.string (nmI k), .string s] (by simp [Act.eval, Act.put]) rfl HNw.out (by simp [Value.oneCell']) (by unfold maxLen; omega) (by omega) hbs ?_; intro v2 w2 hown2 hg2)
        have rel := HCut.out v2 w2 hown2 hg2
        have c2 := (rel.2.2.2.cell (p := ⟨b, off + k, none⟩) hltw).trans hcw
        have HG : Hid (SzRel w ss (k + 1) v2 (n + 8 + (s.size + 3) / 4 * 4) w2) := rel
        clear rel hown2 hg2 HCut
        have hsn : (s.size : Int) ≤ 2000 := by omega
        go_wp2_with fail
        go_roundg g
        case measure => omega
        case rel => exact ⟨k + 1, n + 8 + (s.size + 3) / 4 * 4, by omega, by omega, by go_num, HG⟩
    · obtain ⟨o, hn, hsz, hbel⟩ := HR.out
      have hkk : k = ss.length ∨ k = 5 := by omega
      have hlen : (ckF 0 (ss.take k)).length = k := by rw [ckF_len]; simp; omega
      have hsl : (ss.take k).length ≤ 10 := by simp; omega
      obtain ⟨m1, m2⟩ := mak_ckF hsl hsz
      have hckok : ckOk (ckF 0 (ss.take k)) := by
        intro c hc
        obtain ⟨i, hi2, rfl⟩ := List.getElem_of_mem hc
        rw [ckF_len] at hi2
        rw [ckF_at 0 (ss.take k) i hi2]
        refine ⟨?_, ?_⟩
        · rw [(nm_ok _ (by omega)).2.2]; decide
        · have := hsz _ (List.getElem_mem hi2)
          dsimp only
          omega
      have hch := o.ch hckok
      have hcl : ((ckF 0 (ss.take k)).length : Int) ≤ 100000000000000 := by omega
      have HB : Hid _ := hbel
      obtain ⟨a5, c5, rfl, -, -, -⟩ := hch.shape
      rw [hlen] at hch ⊢
      obtain ⟨C, hC⟩ : ∃ C, C = ckF 0 (ss.take k) := ⟨_, rfl⟩
      rw [← hC] at m1 m2 hch hlen hcl
      obtain ⟨-, hm65, hmf, -⟩ := mak_ok m1
      have hpl := par_len m1 x1 (by omega)
      obtain ⟨L, hL⟩ : ∃ L, L = (makS C).1.length := ⟨_, rfl⟩
      rw [← hL] at m2 hpl
      have hL12 : 12 ≤ L := by omega
      have hL65 : L ≤ 65536 := by omega
      have HPL : Hid _ := hpl
      have HMF : Hid _ := hmf
      have HL : Hid _ := hL
      clear HR o hn hsz hbel hckok m2 hpl hmf hC hm65 hL
      have hcases : (¬ ((k : Int) < (ss.length : Int))) ∨ ((k : Int) < (ss.length : Int) ∧ ¬ ((k : Int) < 5)) := by omega
      have hk10 : k ≤ 5 := by omega
      clear hkk
      rcases hcases with g1 | ⟨g1, g2⟩
      all_goals
        go_wp2_with fail
        refine (make_any _ C _ hch hcl).mono ?_
        rintro e w3 ⟨v3, rfl, o3, b3⟩
        rw [m1]
        obtain ⟨g, c3, rfl, hg3, hc3, hc4⟩ := OB.shape o3 (by rw [← HL.out]; omega)
        have HB3 : Hid (Below w.heap.size w w3) := HB.out.trans (b3.mono HB.out.size)
        have hgw : w.heap.size ≤ g := Nat.le_trans HB.out.size hg3
        rw [← HL.out] at o3 hc3 ⊢
        clear b3 hch HB hg3
        have hLc : (makS C).1.length = L := HL.out.symm
        obtain ⟨p4, f4⟩ := o3.facts 4 (by omega)
        obtain ⟨p5, f5⟩ := o3.facts 5 (by omega)
        obtain ⟨p6, f6⟩ := o3.facts 6 (by omega)
        obtain ⟨p7, f7⟩ := o3.facts 7 (by omega)
        have o7 := (((o3.set 4 (by omega) ((x1 : Int) / 16777216) (UInt8.ofNat (x1 / 16777216)) (by rw [u8n]; omega)).set 5 (by simp; omega) ((x1 : Int) / 65536 % 256) (UInt8.ofNat (x1 / 65536)) (by rw [u8n]; omega)).set 6 (by simp; omega) ((x1 : Int) / 256 % 256) (UInt8.ofNat (x1 / 256)) (by rw [u8n]; omega)).set 7 (by simp; omega) ((x1 : Int) % 256) (UInt8.ofNat x1) (by rw [u8n]; omega)
        have hset : ((((makS C).1.set 4 (UInt8.ofNat (x1 / 16777216))).set 5 (UInt8.ofNat (x1 / 65536))).set 6 (UInt8.ofNat (x1 / 256))).set 7 (UInt8.ofNat x1) = markF ++ four x1 ++ markB ++ bodyS C := by rw [HMF.out]; rfl
        rw [hset] at o7
        have HB7 : Hid (Below w.heap.size w ((((w3.setCell ⟨g, 4, none⟩ (.int .u8 ((x1 : Int) / 16777216))).setCell ⟨g, 5, none⟩ (.int .u8 ((x1 : Int) / 65536 % 256))).setCell ⟨g, 6, none⟩ (.int .u8 ((x1 : Int) / 256 % 256))).setCell ⟨g, 7, none⟩ (.int .u8 ((x1 : Int) % 256)))) := (((HB3.out.setCell hgw _).setCell hgw _).setCell hgw _).setCell hgw _
        have y7 := o7.by
        have HY : Hid _ := y7
        have hLi : (12 : Int) ≤ (L : Int) := by omega
        have hLi2 : (L : Int) ≤ 65536 := by omega
        clear o7 y7 hset o3 hLc
        by_cases hs : (x1 : Int) = (L : Int) - 8
        · have hR := HPL.out
          rw [if_pos (by omega)] at hR
          have HR : Hid _ := hR
          have hsb : ((x1 : Int) == (L : Int) - 8) = true := by simpa using hs
          clear hR hs
          go_wp2_with fail
          refine (parse_any _ _ _ HY.out).mono ?_
          rw [HR.out]
          rintro e w8 ⟨v8, rfl, o8, k8, b8⟩
          obtain ⟨a8, c8, rfl, -, -, -⟩ := (o8.ch k8).shape
          have HB8 : Hid (Below w.heap.size w w8) := HB7.out.trans (b8.mono HB7.out.size)
          clear o8 k8 b8 HB7 HY
          rw [hlen]
          go_wp2_with fail
          refine (awake_any _).mono ?_
          rintro e wa ⟨rfl, ba⟩
          have HA : Hid (Below w.heap.size w wa) := HB8.out.trans (ba.mono HB8.out.size)
          clear ba
          go_wp2_with fail
          go_ret
          exact ⟨rfl, HA.out⟩
        · have hR := HPL.out
          rw [if_neg (by omega)] at hR
          have HR : Hid _ := hR
          have hsb : ((x1 : Int) == (L : Int) - 8) = false := by simpa using hs
          clear hR hs
          go_wp2_with fail
          refine (parse_any _ _ _ HY.out).mono ?_
          rw [HR.out]
          rintro e w8 ⟨v8, rfl, o8, k8, b8⟩
          obtain ⟨a8, c8, rfl, -, -, -⟩ := (o8.ch k8).shape
          have HB8 : Hid (Below w.heap.size w w8) := HB7.out.trans (b8.mono HB7.out.size)
          clear o8 k8 b8 HB7 HY
          simp only [List.length_nil]
          go_wp2_with fail
          refine (awake_any _).mono ?_
          rintro e wa ⟨rfl, ba⟩
          have HA : Hid (Below w.heap.size w wa) := HB8.out.trans (ba.mono HB8.out.size)
          clear ba
          go_wp2_with fail
          go_ret
          exact ⟨rfl, HA.out⟩
end Go.Proofs.Ytifofcodmgglkaa
