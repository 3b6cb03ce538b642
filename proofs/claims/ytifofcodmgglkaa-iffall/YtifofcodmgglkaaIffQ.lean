/-
  iff: chunks, isHeaded, Parse.
-/
import Derived.Test.YtifofcodmgglkaaIffP
namespace Go.Proofs.Ytifofcodmgglkaa
open Go.RowKit Go.Maps
set_option linter.unusedVariables false
set_option linter.unusedSimpArgs false

def ckOk (acc : List Ck) : Prop := ∀ c ∈ acc, (c.1.size : Int) ≤ 140737488355328 ∧ (c.2.size : Int) ≤ 140737488355328
/-- Chunks and what is wrong are answered; the chunks lie in new memory. -/
def ParPost (w : World) (R : List Ck × Int) (e : Ending) (w' : World) : Prop :=
  ∃ v, e = .returned (.tuple #[v, .int .i64 R.2]) ∧ OC w' w.heap.size v R.1 ∧ ckOk R.1 ∧ Below w.heap.size w w'

theorem fst_sizes {l : List UInt8} (hl : l.length ≤ 1000000) : ((fstS l).1.1.size : Int) ≤ 140737488355328 ∧ ((fstS l).1.2.size : Int) ≤ 140737488355328 := by
  unfold fstS
  split
  · exact ⟨by decide, by decide⟩
  · split
    · exact ⟨by decide, by decide⟩
    · split
      · have h1 : (⟨(l.take 4).toArray⟩ : ByteArray).size = (l.take 4).length := rfl
        have h2 : (⟨((l.drop 8).take (cntL (l.drop 4))).toArray⟩ : ByteArray).size = ((l.drop 8).take (cntL (l.drop 4))).length := rfl
        rw [h1, h2]
        simp only [List.length_take, List.length_drop]
        omega
      · exact ⟨by decide, by decide⟩

theorem OC.mapNe {w : World} {base : Nat} {v : Value} {l acc : List Ck} {g n : Nat} (h : OC w base v l) (hb : Nms w g n acc) : v.ownBlock ≠ some g := by
  rcases h.2 with ⟨rfl, _⟩ | ⟨g', cap, cur, rfl, _, hh, _⟩
  · simp [Value.ownBlock]
  · intro e
    simp only [Value.ownBlock, Option.some.injEq] at e
    subst e
    obtain ⟨D, ⟨es, clock, h1, _⟩, _⟩ := hb
    rw [h1] at hh
    cases hh
theorem OC.grown {w w' : World} {base : Nat} {v : Value} {l : List Ck} {row : Option Nat} (h : OC w base v l) (hg : w.grownBy w' row) (hne : v.ownBlock ≠ row ∨ row = none) : OC w' base v l := by
  obtain ⟨h1, h2⟩ := h
  refine ⟨h1, ?_⟩
  rcases h2 with h3 | ⟨g, cap, cur, rfl, hb1, hh, h4⟩
  · exact .inl h3
  · refine .inr ⟨g, cap, cur, rfl, hb1, ?_, h4⟩
    rw [hg.block g (Array.getElem?_eq_some_iff.1 hh).1 (by rcases hne with h | h; · exact h
                                                           · rw [h]; simp)]
    exact hh
theorem BxC.mapNe {w : World} {g g' n : Nat} {c : Ck} {acc : List Ck} (h : BxC w g c) (hb : Nms w g' n acc) : g' ≠ g := by
  rintro rfl
  obtain ⟨D, ⟨es, clock, h1, _⟩, _⟩ := hb
  unfold BxC at h
  rw [h1] at h
  cases h
theorem two_new (w : World) (c : Ck) (j : Nat) (u : Value) (hj : [Value.string c.1, Value.string c.2][j]? = some u) : (w.alloc (.cells #[Value.string c.1, Value.string c.2] 39)).cell? ((⟨w.heap.size, 0, none⟩ : Addr).add j) = some u := new_cells w [Value.string c.1, Value.string c.2] _ j u hj

/-- The loop's state. -/
def ChRel (w : World) (R : List Ck × Int) (gk : Nat) (b : Value) (v : Value) (wr : World) : Prop :=
  ∃ (l : List UInt8) (acc : List Ck), l.length ≤ gk ∧ By w b l ∧ l.length ≤ 1000000 ∧ acc.length + l.length ≤ 1000000 ∧ OC wr w.heap.size v acc ∧ ckOk acc ∧ Nms wr w.heap.size acc.length acc ∧ Below w.heap.size w wr ∧ chS l.length acc l = R

set_option maxHeartbeats 4000000 in
theorem chunks_any (v : Value) (l0 : List UInt8) (w : World) (h : By w v l0) (hl : l0.length ≤ 1000000) : Calls Try.prog 20 #[v] w fun e w' => ParPost w (chS l0.length [] l0) e w' := by
  obtain ⟨i0, hi, hz0, hz1, hz2⟩ := info_parts Try.infoCk
  obtain ⟨R, hR⟩ : ∃ R, chS l0.length [] l0 = R := ⟨_, rfl⟩
  have hal := (Below.refl w.heap.size w).alloc (Nat.le_refl _) (.map #[] 0)
  have HS : Hid (ChRel w R l0.length v (.slice none 0 0) (w.alloc (.map #[] 0))) := ⟨l0, [], Nat.le_refl _, h, hl, by simpa using hl, OC.nil _ _, fun c hc => by simp at hc, Nms.made w, hal, hR⟩
  rw [hR]
  clear hR hal
  have hmm := @run_makeMap Try.prog
  go_enter Try.func20, Try.ntmps20
  go_wp2_with fail
  go_step3
  go_wp2_with fail
  go_step3
  go_wp2_with fail
  go_loopg [0, 4, 5] l0.length (fun gk s0 s4 s5 wr => s5 = .int .i64 0 ∧ Hid (ChRel w R gk s0 s4 wr))
  case atStart => exact ⟨rfl, HS⟩
  case round =>
    obtain ⟨rfl, HC⟩ := hrel
    obtain ⟨l, acc, hgk, hB, hl1, hl2, hO, hk, hN, hbel, hch⟩ := HC.out
    obtain ⟨a, cap, rfl, hc, hm, hn⟩ := hB.shape
    clear HS HC hmm h hl
    have HB : Hid (By w (.slice a l.length cap) l) := hB
    have HO : Hid (OC wr w.heap.size u4 acc) := hO
    have HK : Hid (ckOk acc) := hk
    have HN : Hid (Nms wr w.heap.size acc.length acc) := hN
    have HBel : Hid _ := hbel
    have HCh : Hid _ := hch
    clear hB hO hk hN hbel hch
    by_cases h0 : l = []
    · subst h0
      have HE : Hid (R = (acc, 0)) := HCh.out.symm
      clear HCh
      go_wp2_with fail
      go_ret2
      have e := HE.out
      subst e
      exact ⟨_, rfl, HO.out, HK.out, HBel.out⟩
    · have h0l : 0 < l.length := List.length_pos_iff.2 h0
      have h0i : (0 : Int) < (l.length : Int) := by omega
      have hfs := fst_sizes hl1
      obtain ⟨b, off, rfl, hlt, -⟩ := HB.out.at 0 h0l
      have hst := fst_err l
      have hok := @fst_ok l
      have hcs := @ch_step acc l h0
      have hcw := @ch_wrong acc l h0
      have hct := @ch_twice acc l h0
      rw [HCh.out] at hcs hcw hct
      have HF : Hid (∀ W : World, By W (.slice (some ⟨b, off, none⟩) l.length cap) l → Calls Try.prog 30 #[.slice (some ⟨b, off, none⟩) l.length cap] W fun e w' => FstPost W l e w') := fun W hW => first_any _ l W hW (by omega)
      unfold FstPost at HF
      obtain ⟨⟨c, sz, er⟩, hF⟩ : ∃ F, F = fstS l := ⟨_, rfl⟩
      rw [← hF] at hfs hst hok hcs hcw hct HF
      clear hF HCh hn h0
      dsimp only at hfs hst hok hcs hcw hct HF
      go_wp2_with fail
      refine (HF.out _ (HB.out.under HBel.out)).mono ?_
      rintro e w1 ⟨rfl, hb1⟩
      have HB1 : Hid _ := hb1
      clear HF
      have bA := (Below.refl w1.heap.size w1).alloc (Nat.le_refl _) (.cells #[.string c.1, .string c.2] 39)
      have HBA : Hid (Below wr.heap.size wr (w1.alloc (.cells #[.string c.1, .string c.2] 39))) := hb1.trans (bA.mono hb1.size)
      have HBW : Hid (Below w.heap.size w (w1.alloc (.cells #[.string c.1, .string c.2] 39))) := HBel.out.trans (HBA.out.mono HBel.out.size)
      have HX : Hid (BxC (w1.alloc (.cells #[.string c.1, .string c.2] 39)) w1.heap.size c) := BxC.new w1 c
      clear hb1 bA
      by_cases he : er = 0
      · subst he
        obtain ⟨hs1, hs2, -⟩ := hok rfl
        have hcs' := hcs rfl
        have hct' := hct rfl
        clear hok hst hcs hcw hct
        cases hh : hasN acc c.1
        · have HR : Hid _ := hcs' hh
          have HH : Hid _ := hh
          clear hcs' hct' hh
          obtain ⟨ob, hob⟩ : ∃ ob, ob = if cap = sz then off else off + sz := ⟨_, rfl⟩
          have hP : (if cap = sz then some (⟨b, off, none⟩ : Addr) else some ⟨b, off + sz, none⟩) = some ⟨b, ob, none⟩ := by rw [hob]; split <;> rfl
          have HD : Hid (By w (.slice (some ⟨b, ob, none⟩) (l.length - sz) (cap - sz)) (l.drop sz)) := HB.out.dropI sz ob hs2 hob
          have hszi : (sz : Int) ≤ (l.length : Int) := by omega
          have hszc : (sz : Int) ≤ (cap : Int) := by omega
          clear hob
          go_wp2_with fail
          refine (add_any _ acc.length acc c _ (HN.out.under HBA.out) (by omega) hfs.1).mono ?_
          rintro e w2 ⟨rfl, hn2, hg2⟩
          rw [HH.out]
          have n2 := hn2 HH.out
          have x2 := HX.out.grown hg2 (by intro e; injection e with e; exact BxC.mapNe HX.out (HN.out.under HBA.out) e)
          have o2 : OC w2 w.heap.size u4 acc := (HO.out.under HBA.out).grown hg2 (.inl (OC.mapNe (HO.out.under HBA.out) (HN.out.under HBA.out)))
          have b2 : Below w.heap.size w w2 := HBW.out.grown hg2 HBW.out.size (fun j hj => by cases hj; exact Nat.le_refl _)
          obtain ⟨y0, y1, -⟩ := x2.facts
          have X2 : Hid (BxC w2 w1.heap.size c) := x2
          have N2 : Hid (Nms w2 w.heap.size (acc.length + 1) (acc ++ [c])) := n2
          have hw2 := b2.size
          have HB2 : Hid _ := b2
          have hal : acc.length ≤ 1000000 := by omega
          clear hn2 hg2 x2 n2 b2 HN HX HBA HBW HO
          go_wp2_with (first
            | (at_builtin; refine wpList_append_own _ rfl _ _ 23 rfl w.heap.size 39 i0 (.agg #[.string ⟨#[]⟩, .string ⟨#[]⟩]) 2 32 Try.underlying23 hi hz0 hz1 hz2 rfl (by decide) _ _ _ rfl (World.ownsRow.alloc o2 _) ⟨w2.heap.size, 0, none⟩ 1 1 [.string c.1, .string c.2] rfl rfl (two_new w2 c) (by simp [Value.oneCell']) (by unfold maxLen; omega) (by omega) (by simp; omega) ?_; intro v3 w3 hown3 hg3 hnil3; replace hg3 : (w2.alloc (.cells #[.string c.1, .string c.2] 39)).grownBy w3 u4.ownBlock := hg3)
            | fail)
          have o3 : OC w3 w.heap.size v3 (acc ++ [c]) := OC.more hown3
          have hb3 : Below w.heap.size w w3 := (HB2.out.alloc HB2.out.size _).grown hg3 (by simp; omega) (fun j hj => (World.ownsRow.lt o2 j hj).1)
          have n3 : Nms w3 w.heap.size (acc.length + 1) (acc ++ [c]) := by
            have a1 := N2.out.under ((Below.refl _ _).alloc (Nat.le_refl _) (.cells #[.string c.1, .string c.2] 39))
            have a2 := OC.under o2 ((Below.refl _ _).alloc (Nat.le_refl _) (.cells #[.string c.1, .string c.2] 39))
            exact a1.grown hg3 (fun e => OC.mapNe a2 a1 e.symm)
          have hdl : (l.drop sz).length = l.length - sz := by simp
          have HG : Hid (ChRel w R (l.length - sz) (.slice (some ⟨b, ob, none⟩) (l.length - sz) (cap - sz)) v3 w3) := by
            refine ⟨l.drop sz, acc ++ [c], by omega, HD.out, by omega, by simp only [List.length_append, List.length_cons, List.length_nil]; omega, o3, ?_, by simpa using n3, hb3, HR.out.symm⟩
            intro x hx
            rcases List.mem_append.1 hx with h | h
            · exact HK.out x h
            · simp only [List.mem_cons, List.not_mem_nil, or_false] at h
              subst h
              exact hfs
          go_roundg (l.length - sz)
          case measure => omega
          case rel => exact ⟨rfl, HG⟩
        · have HR : Hid _ := hct' hh
          have HH : Hid _ := hh
          clear hcs' hct' hh
          go_wp2_with fail
          refine (add_any _ acc.length acc c _ (HN.out.under HBA.out) (by omega) hfs.1).mono ?_
          rintro e w2 ⟨rfl, hn2, hg2⟩
          rw [HH.out]
          have HB2 : Hid (Below w.heap.size w w2) := HBW.out.grown hg2 HBW.out.size (fun j hj => by cases hj; exact Nat.le_refl _)
          clear hn2 hg2
          go_wp2_with fail
          go_ret2
          have e := HR.out
          subst e
          exact ⟨_, rfl, OC.nil _ _, fun c hc => by simp at hc, HB2.out⟩
      · have HR : Hid _ := hcw he
        clear hok hst hcs hcw hct
        go_wp2_with fail
        go_ret2
        have e := HR.out
        subst e
        exact ⟨_, rfl, OC.nil _ _, fun c hc => by simp at hc, HBW.out⟩
end Go.Proofs.Ytifofcodmgglkaa
