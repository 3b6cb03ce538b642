/-
  iff: Make.
-/
import Derived.Test.YtifofcodmgglkaaIffE
import Derived.Deep.Cut
namespace Go.Proofs.Ytifofcodmgglkaa
open Go.RowKit Go.Maps
set_option linter.unusedVariables false
set_option linter.unusedSimpArgs false

theorem okN_size {s : ByteArray} (h : okN s.data.toList = true) : s.size = 4 := by
  unfold okN at h
  simp only [Bool.and_eq_true, decide_eq_true_eq] at h
  have : s.data.toList.length = s.size := by simp
  omega
theorem ref_all : ∀ (l seen : List Ck), refS seen l = 0 → ∀ c ∈ l, okN c.1.data.toList = true
  | [], _, _, c, hc => by simp at hc
  | x :: r, seen, h, c, hc => by
    unfold refS at h
    split at h
    · cases h
    · split at h
      · cases h
      · rename_i h1 h2
        rcases List.mem_cons.1 hc with rfl | h3
        · simpa using h1
        · exact ref_all r _ h c h3
theorem ckB_len {c : Ck} (h : okN c.1.data.toList = true) : (ckB c).length = ckL c := by
  have h1 := okN_size h
  have h2 : c.1.data.toList.length = c.1.size := by simp
  have h3 : c.2.data.toList.length = c.2.size := by simp
  unfold ckB ckL
  simp only [List.length_append, four_len, List.length_replicate]
  omega
theorem body_len : ∀ (l : List Ck), (∀ c ∈ l, okN c.1.data.toList = true) → (bodyS l).length = sizS l
  | [], _ => rfl
  | c :: r, h => by
    simp only [bodyS, sizS, List.length_append]
    rw [ckB_len (h c (by simp)), body_len r (fun x hx => h x (by simp [hx]))]
theorem body_step {l : List Ck} {k : Nat} (hk : k < l.length) : bodyS (l.drop k) = ckB l[k] ++ bodyS (l.drop (k + 1)) := by
  rw [List.drop_eq_getElem_cons hk]
  rfl

def MkPost (w : World) (l : List Ck) (e : Ending) (w' : World) : Prop :=
  ∃ v, e = .returned (.tuple #[v, .int .i64 (makS l).2]) ∧ OB w' w.heap.size v (makS l).1 ∧ Below w.heap.size w w'

theorem OB.grown {w w' : World} {base : Nat} {v : Value} {l : List UInt8} {row : Option Nat} (h : OB w base v l) (hg : w.grownBy w' row) (hne : v.ownBlock ≠ row ∨ row = none) : OB w' base v l := by
  obtain ⟨h1, h2⟩ := h
  refine ⟨h1, ?_⟩
  rcases h2 with h3 | ⟨g, cap, cur, rfl, hb1, hh, h4⟩
  · exact .inl h3
  · refine .inr ⟨g, cap, cur, rfl, hb1, ?_, h4⟩
    rw [hg.block g (Array.getElem?_eq_some_iff.1 hh).1 (by rcases hne with h | h; · exact h
                                                           · rw [h]; simp)]
    exact hh
theorem OB.belowG {w w' : World} {base B : Nat} {v : Value} {l : List UInt8} {W : World} (h : OB w base v l) (hb : Below B W w) (hg : w.grownBy w' v.ownBlock) (hB : B ≤ w.heap.size) (hbase : B ≤ base) : Below B W w' :=
  hb.grown hg hB (fun j hj => Nat.le_trans hbase (World.ownsRow.lt h j hj).1)
/-- The chunk's box stands while the row grows. -/
theorem box_cells (w : World) (a b : Value) : (w.alloc (.cells #[a, b] 39)).cell? ⟨w.heap.size, 0, none⟩ = some a ∧ (w.alloc (.cells #[a, b] 39)).cell? ⟨w.heap.size, 1, none⟩ = some b := by
  rw [World.cell?_alloc_mark, World.cell?_alloc_mark]
  exact ⟨rfl, rfl⟩

theorem far {w w' : World} {row : Option Nat} (hg : w.grownBy w' row) (a : Addr) (hlt : a.block < w.heap.size) (hne : some a.block ≠ row) : w'.cell? a = w.cell? a := World.cell?_of_block (hg.block a.block hlt hne)

/-- A chunk's box. -/
def BxC (w : World) (g : Nat) (c : Ck) : Prop := w.heap[g]? = some (.cells #[.string c.1, .string c.2] 39 (0, 0))
theorem BxC.new (w : World) (c : Ck) : BxC (w.alloc (.cells #[.string c.1, .string c.2] 39)) w.heap.size c := heap_alloc_new w _
theorem BxC.lt {w : World} {g : Nat} {c : Ck} (h : BxC w g c) : g < w.heap.size := (Array.getElem?_eq_some_iff.1 h).1
theorem BxC.cells {w : World} {g : Nat} {c : Ck} (h : BxC w g c) : w.cell? ⟨g, 0, none⟩ = some (.string c.1) ∧ w.cell? ⟨g, 1, none⟩ = some (.string c.2) := by
  rw [cell_of_row w g 0 _ _ _ h, cell_of_row w g 1 _ _ _ h]
  exact ⟨rfl, rfl⟩
theorem BxC.grown {w w' : World} {g : Nat} {c : Ck} {row : Option Nat} (h : BxC w g c) (hg : w.grownBy w' row) (hne : row ≠ some g) : BxC w' g c := by
  unfold BxC at h ⊢
  rw [hg.block g (Array.getElem?_eq_some_iff.1 h).1 hne.symm]
  exact h
theorem BxC.under {w w' : World} {g : Nat} {c : Ck} (h : BxC w g c) (hb : Below w.heap.size w w') : BxC w' g c := by
  unfold BxC at h ⊢
  rw [hb.block g (Array.getElem?_eq_some_iff.1 h).1]
  exact h
theorem OB.ne {w : World} {base : Nat} {v : Value} {l : List UInt8} {g : Nat} {c : Ck} (h : OB w base v l) (hb : BxC w g c) : v.ownBlock ≠ some g := by
  rcases h.2 with ⟨rfl, _⟩ | ⟨g', cap, cur, rfl, _, hh, _⟩
  · simp [Value.ownBlock]
  · intro e
    simp only [Value.ownBlock, Option.some.injEq] at e
    subst e
    unfold BxC at hb
    rw [hb] at hh
    simp at hh

/-- What one round of Make leaves. -/
def MkRow (w : World) (X : List UInt8) (s6 : Value) (wr : World) : Prop := OB wr w.heap.size s6 X ∧ Below w.heap.size w wr

set_option maxHeartbeats 4000000 in
theorem make_any (v : Value) (l : List Ck) (w : World) (h : Ch w v l) (hl : (l.length : Int) ≤ 100000000000000) : Calls Try.prog 13 #[v] w fun e w' => MkPost w l e w' := by
  obtain ⟨a, cap, rfl, hc, hm, hn⟩ := h.shape
  obtain ⟨i0, hi, hz0, hz1, hz2⟩ := info_parts Try.infoU8
  by_cases hr : refS [] l = 0
  · have hall := ref_all l [] hr
    have hbl := body_len l hall
    by_cases hsz : 65536 < 12 + sizS l
    · have HM : Hid (makS l = ([], 2)) := by
        unfold Hid makS
        rw [if_neg (by simpa using hr), if_pos hsz]
      have HR : Hid _ := hr
      have HS : Hid _ := hsz
      clear hr hsz hall hbl
      unfold MkPost
      rw [HM.out]
      go_enter Try.func13, Try.ntmps13
      go_wp2_with fail
      refine (refused_any _ l _ h hl).mono ?_
      rintro e w1 ⟨rfl, hb1⟩
      rw [HR.out]
      have HB1 : Hid _ := hb1
      have h1 := h.under hb1
      clear hb1
      go_wp2_with fail
      refine (fileSize_any _ l _ h1).mono ?_
      rintro e w2 ⟨r, rfl, -, hr2, hb2⟩
      obtain ⟨hr3, hr4⟩ := hr2 HS.out
      have HB2 : Hid (Below w.heap.size w w2) := HB1.out.trans (hb2.mono HB1.out.size)
      clear hr2 hb2
      go_wp2_with fail
      go_ret2
      exact ⟨_, rfl, OB.nil _ _, HB2.out⟩
    · obtain ⟨Y, hY⟩ : ∃ Y, Y = markF ++ four (4 + sizS l) ++ markB ++ bodyS l := ⟨_, rfl⟩
      have hYl : Y.length = 12 + sizS l := by rw [hY]; simp only [List.length_append, four_len, hbl, markF, markB, List.length_cons, List.length_nil]
      have HM : Hid (makS l = (Y, 0)) := by
        unfold Hid makS
        rw [if_neg (by simpa using hr), if_neg hsz, hY]
      have HR : Hid _ := hr
      have HA : Hid _ := hall
      have HYl : Hid (Y.length ≤ 65536) := by unfold Hid; omega
      have hsz' : sizS l ≤ 65524 := by omega
      obtain ⟨N, hN⟩ : ∃ N, N = sizS l := ⟨_, rfl⟩
      have HN : Hid (N = sizS l) := hN
      rw [← hN] at hY hsz'
      have HY : Hid _ := hY
      clear hr hsz hall hbl hY hYl hN
      unfold MkPost
      rw [HM.out]
      go_enter Try.func13, Try.ntmps13
      go_wp2_with fail
      refine (refused_any _ l _ h hl).mono ?_
      rintro e w1 ⟨rfl, hb1⟩
      rw [HR.out]
      have HB1 : Hid _ := hb1
      have h1 := h.under hb1
      clear hb1
      go_wp2_with fail
      refine (fileSize_any _ l _ h1).mono ?_
      rintro e w2 ⟨r, rfl, hr2, -, hb2⟩
      rw [← HN.out] at hr2
      have hr3 := hr2 (by omega)
      subst hr3
      have HB2 : Hid (Below w.heap.size w w2) := HB1.out.trans (hb2.mono HB1.out.size)
      have hw2 := HB2.out.size
      clear hr2 hb2 HB1 h1
      have hNc : ((12 + N : Nat) : Int) = 12 + (N : Int) := by omega
      rw [hNc]
      clear hNc
      have e8 : (12 + (N : Int) - 8) = ((4 + N : Nat) : Int) := by omega
      go_wp2_with (first
        | (at_make; refine wpList_make_own _ rfl _ _ 22 rfl w.heap.size 5 i0 (.int .u8 0) 1 Try.underlying22 hi hz0 hz1 .i64 .i64 _ (12 + N) rfl rfl (by omega) (by rw [hz2]; omega) (by unfold maxLen; omega) hw2 ?_; intro w3 hown3 hg3)
        | (at_builtin; refine Lib.wpList_append_own_string _ rfl _ _ 22 9 rfl w.heap.size 5 i0 Try.underlying22 Try.underlying9 hi hz0 hz1 hz2 _ _ _ rfl hown3 _ rfl (by decide) (by decide) (Nat.le_trans hw2 hg3.size) ?_; intro v4 w4 hown4 hg4 hnil4)
        | fail)
      replace hg4 : w3.grownBy w4 (some w2.heap.size) := hg4
      have o4 : OB w4 w.heap.size v4 markF := hown4
      have b3 : Below w.heap.size w w3 := HB2.out.grown hg3 hw2 (fun j hj => by cases hj)
      have b4 : Below w.heap.size w w4 := b3.grown hg4 b3.size (fun j hj => by cases hj; exact hw2)
      clear hown3 hg3 hown4 hg4 hnil4 b3 HB2 hw2 e8
      refine (putCount_any w.heap.size v4 markF (4 + N) _ o4 (by decide) (by omega) b4.size).mono ?_
      rintro e w5 ⟨v5, rfl, o5, g5⟩
      have b5 := OB.belowG o4 b4 g5 b4.size (Nat.le_refl _)
      clear b4 o4 g5
      have hw5 := b5.size
      have HB5 : Hid _ := b5
      clear b5
      go_wp2_with (first
        | (at_builtin; refine Lib.wpList_append_own_string _ rfl _ _ 22 9 rfl w.heap.size 5 i0 Try.underlying22 Try.underlying9 hi hz0 hz1 hz2 _ _ _ rfl o5 _ rfl (by show 8 + 4 ≤ maxLen; decide) (by show 8 + 4 ≤ 140737488355328; decide) hw5 ?_; intro v6 w6 hown6 hg6 hnil6)
        | fail)
      replace hg6 : w5.grownBy w6 v5.ownBlock := hg6
      have o6 : OB w6 w.heap.size v6 (markF ++ four (4 + N) ++ markB) := OB.more hown6 rfl
      have b6 := OB.belowG o5 HB5.out hg6 HB5.out.size (Nat.le_refl _)
      clear hown6 hg6 hnil6 o5 HB5 hw5
      have HS : Hid (MkRow w (markF ++ four (4 + N) ++ markB) v6 w6) := ⟨o6, b6⟩
      clear o6 b6
      go_loopg [6, 30] l.length (fun gk s6 s30 wr => ∃ (k : Nat) (X : List UInt8), k + gk = l.length ∧ s30 = .int .i64 (k : Int) ∧ Hid (MkRow w X s6 wr) ∧ Hid (X ++ bodyS (l.drop k) = Y))
      case atStart => exact ⟨0, _, by omega, rfl, HS, HY.out.symm⟩
      case round =>
        obtain ⟨k, X, hk, rfl, HW, HD⟩ := hrel
        clear HS HY
        cases gk with
        | zero =>
          obtain rfl : k = l.length := by omega
          have HE : Hid (X = Y) := by unfold Hid; have := HD.out; rw [List.drop_length] at this; simpa [bodyS] using this
          clear HD
          go_wp2_with fail
          go_ret2
          have e := HE.out
          subst e
          exact ⟨_, rfl, HW.out.1, HW.out.2⟩
        | succ g =>
          have hkl : k < l.length := by omega
          obtain ⟨oX, bX⟩ := HW.out
          obtain ⟨b, off, rfl, hlt, hc1, hc2, hs1, hs2⟩ := (h.under bX).at k hkl
          have hst := body_step hkl
          have hok := HA.out _ (List.getElem_mem hkl)
          obtain ⟨c, hcd⟩ : ∃ c, c = l[k] := ⟨_, rfl⟩
          rw [← hcd] at hc1 hc2 hs1 hs2 hst hok
          have h4 := okN_size hok
          have hlen := ckB_len hok
          have hXl : X.length + ckL c ≤ 65536 := by
            have h1 := congrArg List.length HD.out
            have h2 := HYl.out
            rw [hst] at h1
            simp only [List.length_append] at h1
            omega
          have HD2 : Hid (X ++ ckB c ++ bodyS (l.drop (k + 1)) = Y) := by
            unfold Hid
            rw [List.append_assoc, ← hst]
            exact HD.out
          unfold ckL at hXl
          have hdl : c.2.data.toList.length = c.2.size := by simp
          have hnl : c.1.data.toList.length = c.1.size := by simp
          clear hcd HD hst hok hlen HW
          have hki : (k : Int) < (l.length : Int) := by omega
          have hmis := mis_lt c.2.size
          obtain ⟨q, hq⟩ : ∃ q, q = mis c.2.size := ⟨_, rfl⟩
          have HQ : Hid (q = mis c.2.size) := hq
          rw [← hq] at hmis hXl
          clear hq
          have al := (Below.refl wr.heap.size wr).alloc (Nat.le_refl _) (.cells #[.string c.1, .string c.2] 39)
          have oA := oX.under al
          have bA := bX.alloc bX.size (.cells #[.string c.1, .string c.2] 39)
          have xA := BxC.new wr c
          have HBA : Hid _ := bA
          have HXA : Hid (BxC (wr.alloc (.cells #[.string c.1, .string c.2] 39)) wr.heap.size c) := xA
          have HDL : Hid _ := hdl
          have HNL : Hid _ := hnl
          have hszA := bA.size
          clear al bA oX bX xA hdl hnl
          go_wp2_with (first
            | (at_builtin; refine Lib.wpList_append_own_string _ rfl _ _ 22 9 rfl w.heap.size 5 i0 Try.underlying22 Try.underlying9 hi hz0 hz1 hz2 _ _ _ rfl oA _ rfl (by unfold maxLen; omega) (by omega) hszA ?_; intro v7 w7 hown7 hg7 hnil7; replace hg7 : (wr.alloc (.cells #[.string c.1, .string c.2] 39)).grownBy w7 u6.ownBlock := hg7; have x7 := HXA.out.grown hg7 (OB.ne oA HXA.out); obtain ⟨-, y7⟩ := x7.cells; have X7 : Hid (BxC w7 wr.heap.size c) := x7; clear x7)
            | fail)
          have o7 : OB w7 w.heap.size v7 (X ++ c.1.data.toList) := OB.more hown7 (by rw [HNL.out])
          have b7 := OB.belowG oA HBA.out hg7 HBA.out.size (Nat.le_refl _)
          clear hown7 hg7 hnil7 oA HBA HXA y7
          have hl7 : ((X ++ c.1.data.toList).length : Int) ≤ 1000000 := by simp only [List.length_append, HNL.out]; omega
          refine (putCount_any w.heap.size v7 _ c.2.size _ o7 hl7 (by omega) b7.size).mono ?_
          rintro e w8 ⟨v8, rfl, o8, g8⟩
          have x8 := X7.out.grown g8 (OB.ne o7 X7.out)
          have b8 := OB.belowG o7 b7 g8 b7.size (Nat.le_refl _)
          obtain ⟨-, y8⟩ := x8.cells
          have X8 : Hid (BxC w8 wr.heap.size c) := x8
          have HB8 : Hid _ := b8
          have h8 := b8.size
          have hl8 : (X ++ c.1.data.toList ++ four c.2.size).length = X.length + 8 := by simp only [List.length_append, HNL.out, four_len]; omega
          have HL8 : Hid _ := hl8
          clear b7 o7 g8 x8 b8 X7 hl7 hl8
          go_wp2_with (first
            | (at_builtin; refine Lib.wpList_append_own_string _ rfl _ _ 22 9 rfl w.heap.size 5 i0 Try.underlying22 Try.underlying9 hi hz0 hz1 hz2 _ _ _ rfl o8 _ rfl (by rw [HL8.out]; unfold maxLen; omega) (by rw [HL8.out]; omega) h8 ?_; intro v9 w9 hown9 hg9 hnil9; replace hg9 : w8.grownBy w9 v8.ownBlock := hg9; have x9 := X8.out.grown hg9 (OB.ne o8 X8.out); obtain ⟨-, y9⟩ := x9.cells)
            | fail)
          have o9 : OB w9 w.heap.size v9 (X ++ c.1.data.toList ++ four c.2.size ++ c.2.data.toList) := OB.more hown9 (by rw [HDL.out])
          have b9 := OB.belowG o8 HB8.out hg9 HB8.out.size (Nat.le_refl _)
          have hl9 : (X ++ c.1.data.toList ++ four c.2.size ++ c.2.data.toList).length = X.length + 8 + c.2.size := by rw [List.length_append, HL8.out, HDL.out]
          have HL9 : Hid _ := hl9
          have HB9 : Hid _ := b9
          have h9 := b9.size
          clear hown9 hg9 hnil9 b9 hl9 x9 y9 y8 X8 HB8 o8 HL8
          refine (missing_any c.2.size _ (by omega)).mono ?_
          rintro e w10 ⟨rfl, rfl⟩
          rw [← HQ.out]
          go_wp2_with (first
            | (at_builtin; refine wpList_appz rfl _ _ rfl _ q rfl rfl w.heap.size _ o9 (by rw [HL9.out]; omega) (by omega) h9 ?_; intro v11 w11 o11 hg11; replace hg11 : w10.grownBy w11 v9.ownBlock := hg11)
            | fail)
          have b11 := OB.belowG o9 HB9.out hg11 HB9.out.size (Nat.le_refl _)
          have HF : Hid (X ++ ckB c = X ++ c.1.data.toList ++ four c.2.size ++ c.2.data.toList ++ z8 q) := by
            unfold Hid ckB z8
            rw [HQ.out]
            simp only [List.append_assoc]
          go_roundg g
          case measure => omega
          case rel => exact ⟨k + 1, X ++ ckB c, by omega, by go_num, by rw [HF.out]; exact ⟨o11, b11⟩, HD2⟩
  · have HM : Hid (makS l = ([], refS [] l)) := by
      unfold Hid makS
      rw [if_pos hr]
    obtain ⟨z, hz⟩ : ∃ z, z = refS [] l := ⟨_, rfl⟩
    rw [← hz] at HM
    have hz0' : ¬ z = 0 := by rw [hz]; exact hr
    have HZ : Hid (z = refS [] l) := hz
    clear hr hz
    unfold MkPost
    rw [HM.out]
    go_enter Try.func13, Try.ntmps13
    go_wp2_with fail
    refine (refused_any _ l _ h hl).mono ?_
    rintro e w1 ⟨rfl, hb1⟩
    rw [← HZ.out]
    have HB1 : Hid _ := hb1
    clear hb1
    go_wp2_with fail
    go_ret2
    exact ⟨_, rfl, OB.nil _ _, HB1.out⟩
end Go.Proofs.Ytifofcodmgglkaa
