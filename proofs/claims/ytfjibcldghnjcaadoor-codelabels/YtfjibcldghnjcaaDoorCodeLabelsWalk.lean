
/-
  relictlaw08.CodeLabels.
-/
import Derived.Test.YtfjibcldghnjcaaDoorZLbD
import Derived.Test.YtfjibcldghnjcaaDoorCdOneWalk
import Derived.Test.YtfjibcldghnjcaaDoorPlaceB
import Derived.Test.YtfjibcldghnjcaaDoorSlInt
import Derived.Deep.LoopGhost
namespace Go.Proofs.YtfjibcldghnjcaaDoor
open Go.RowKit Go.Maps
set_option linter.unusedVariables false
set_option linter.unusedSimpArgs false

theorem one_ins {w : World} {op n : Int} {K : List Ag} {i : In} {p : Option Addr} {c : Nat} (hi : i = ⟨op, K⟩) (h : GsQ w (PlainA w) (.slice p K.length c) K) : ∀ k (h : k < [i].length) (h' : k < [(⟨op, p, K.length, c⟩ : Ei)].length), [(⟨op, p, K.length, c⟩ : Ei)][k].op = [i][k].op ∧ GsQ w (PlainA w) [(⟨op, p, K.length, c⟩ : Ei)][k].sl [i][k].K := by
  intro k a b
  have : k = 0 := by simpa using a
  subst this
  subst hi
  exact ⟨rfl, h⟩
theorem two_ins {w : World} {op op2 : Int} {K K2 : List Ag} {i i2 : In} {p p2 : Option Addr} {c c2 : Nat} (hi : i = ⟨op, K⟩) (hi2 : i2 = ⟨op2, K2⟩) (h : GsQ w (PlainA w) (.slice p K.length c) K) (h2 : GsQ w (PlainA w) (.slice p2 K2.length c2) K2) :
    ∀ k (h : k < [i, i2].length) (h' : k < [(⟨op, p, K.length, c⟩ : Ei), ⟨op2, p2, K2.length, c2⟩].length), [(⟨op, p, K.length, c⟩ : Ei), ⟨op2, p2, K2.length, c2⟩][k].op = [i, i2][k].op ∧ GsQ w (PlainA w) [(⟨op, p, K.length, c⟩ : Ei), ⟨op2, p2, K2.length, c2⟩][k].sl [i, i2][k].K := by
  intro k a b
  subst hi; subst hi2
  match k, a with
  | 0, _ => exact ⟨rfl, h⟩
  | 1, _ => exact ⟨rfl, h2⟩
theorem gs_one {w : World} {t n : Int} (ht : -9223372036854775808 ≤ t ∧ t ≤ 9223372036854775807) (hn : -9223372036854775808 ≤ n ∧ n ≤ 9223372036854775807) :
    GsQ (w.alloc (.cells #[.int .i64 t, .int .i64 n, .slice none 0 0] 30)) (PlainA (w.alloc (.cells #[.int .i64 t, .int .i64 n, .slice none 0 0] 30))) (.slice (some ⟨w.heap.size, 0, none⟩) 1 1) [agS (t, n)] :=
  gsQ_lits w [elS (t, n)] [agS (t, n)] rfl (fun i a b => by
    have : i = 0 := by simpa using a
    subst this
    exact ⟨elS_fit ht hn, isGQ_single _ _ _ (elS_fit ht hn)⟩) (by show 1 ≤ 1000000; decide)
theorem gs_two {w : World} {t n t2 n2 : Int} (ht : -9223372036854775808 ≤ t ∧ t ≤ 9223372036854775807) (hn : -9223372036854775808 ≤ n ∧ n ≤ 9223372036854775807) (ht2 : -9223372036854775808 ≤ t2 ∧ t2 ≤ 9223372036854775807) (hn2 : -9223372036854775808 ≤ n2 ∧ n2 ≤ 9223372036854775807) :
    GsQ (w.alloc (.cells #[.int .i64 t, .int .i64 n, .slice none 0 0, .int .i64 t2, .int .i64 n2, .slice none 0 0] 30)) (PlainA (w.alloc (.cells #[.int .i64 t, .int .i64 n, .slice none 0 0, .int .i64 t2, .int .i64 n2, .slice none 0 0] 30))) (.slice (some ⟨w.heap.size, 0, none⟩) 2 2) [agS (t, n), agS (t2, n2)] :=
  gsQ_lits w [elS (t, n), elS (t2, n2)] [agS (t, n), agS (t2, n2)] rfl (fun i a b => by
    match i, a with
    | 0, _ => exact ⟨elS_fit ht hn, isGQ_single _ _ _ (elS_fit ht hn)⟩
    | 1, _ => exact ⟨elS_fit ht2 hn2, isGQ_single _ _ _ (elS_fit ht2 hn2)⟩) (by show 2 ≤ 1000000; decide)
theorem gs_three {w : World} {p : Option Addr} {c : Nat} {K : List Ag} (h : GsQ w (PlainA w) (.slice p K.length c) K) (hc : K.length ≤ c) (hc2 : (c : Int) ≤ 9223372036854775807) :
    GsQ (w.alloc (.cells #[.int .i64 3, .int .i64 0, .slice none 0 0, .int .i64 5, .int .i64 1, .slice none 0 0, .int .i64 7, .int .i64 0, .slice p K.length c] 30)) (PlainA (w.alloc (.cells #[.int .i64 3, .int .i64 0, .slice none 0 0, .int .i64 5, .int .i64 1, .slice none 0 0, .int .i64 7, .int .i64 0, .slice p K.length c] 30))) (.slice (some ⟨w.heap.size, 0, none⟩) 3 3) [agS (3, 0), agS (5, 1), ⟨7, 0, K⟩] :=
  gsQ_lits w [elS (3, 0), elS (5, 1), ⟨7, 0, p, K.length, c⟩] [agS (3, 0), agS (5, 1), ⟨7, 0, K⟩] rfl (fun i a b => by
    match i, a with
    | 0, _ => exact ⟨elS_fit (by decide) (by decide), isGQ_single _ _ _ (elS_fit (by decide) (by decide))⟩
    | 1, _ => exact ⟨elS_fit (by decide) (by decide), isGQ_single _ _ _ (elS_fit (by decide) (by decide))⟩
    | 2, _ => exact isGQ_list h hc hc2) (by show 3 ≤ 1000000; decide)
theorem codeQ_wt (zs : List Int) (m : Nat) (q : Int) (hm : m ≤ 30) (I : List In) (hI : I.length ≤ 10) (hk : ∀ i ∈ I, szK i.K ≤ 100) : wtO ((codeQ zs m q ++ I).map In.K) ≤ 1000000000 := by
  have h1 := codeL_len zs m
  refine wt_small _ (by rw [List.length_append, codeQ_len]; omega) (fun i hi => ?_)
  rcases List.mem_append.1 hi with hi | hi
  · unfold codeQ at hi
    rcases List.mem_append.1 hi with hi | hi
    · exact codeL_szK zs m i hi
    · rcases List.mem_cons.1 hi with rfl | hi
      · show szK [agS (5, q)] ≤ 100
        rw [szK_cons, szT_eq]
        exact (by decide : 1 + szK ([] : List Ag) + szK [] ≤ 100)
      · simp only [List.mem_singleton] at hi
        subst hi; decide
  · exact hk i hi
theorem szK_one (t n : Int) : szK [agS (t, n)] ≤ 100 := by
  rw [szK_cons, szT_eq]
  exact (by decide : 1 + szK ([] : List Ag) + szK [] ≤ 100)
theorem szK_P (m : Int) : szK (inP m).K ≤ 100 := by
  show szK [agS (3, 0), agS (5, 1), ⟨7, 0, [agS (1, 1), agS (5, m)]⟩] ≤ 100
  simp only [szK_cons, szT_eq]
  exact (by decide : (1 + szK ([] : List Ag) + (1 + szK [] + (1 + (1 + szK [] + (1 + szK [] + szK [])) + szK []))) ≤ 100)
theorem lab_first (zs : List Int) (m : Nat) (q n : Int) (hm : 0 < m) : labS ((codeQ zs m q).set 0 (inL n) ++ [inL n]) = none := by
  refine labS_none (labF_twice (i := inL n) (j := inL n) ?_ (by simp) rfl rfl rfl _ _)
  have := codeL_len zs m
  have hl : 0 < (codeQ zs m q).length := by rw [codeQ_len]; omega
  exact List.mem_iff_getElem.2 ⟨0, by simpa using hl, by simp⟩

theorem set_wt (zs : List Int) (m : Nat) (q : Int) (hm : m ≤ 30) (h0 : 0 < m) : wtO (((codeQ zs m q).set 0 (inL (m : Int)) ++ [inL (m : Int)]).map In.K) ≤ 1000000000 := by
  have h1 := codeL_len zs m
  refine wt_small _ (by rw [List.length_append, List.length_set, codeQ_len]; simp; omega) (fun i hi => ?_)
  have hk : ∀ x ∈ codeQ zs m q, szK x.K ≤ 100 := fun x hx => by
    unfold codeQ at hx
    rcases List.mem_append.1 hx with hx | hx
    · exact codeL_szK zs m x hx
    · rcases List.mem_cons.1 hx with rfl | hx
      · exact szK_one 5 q
      · simp only [List.mem_singleton] at hx
        subst hx; decide
  rcases List.mem_append.1 hi with hi | hi
  · rcases List.mem_or_eq_of_mem_set hi with hi | hi
    · exact hk i hi
    · rw [hi]; exact szK_one 0 _
  · simp only [List.mem_singleton] at hi
    subst hi; exact szK_one 0 _
theorem Gs_nil (w : World) : Gs w (.slice none 0 0) [] := ⟨none, 0, [], rfl, rfl, Rw3.nil w, fun i h => absurd h (by simp)⟩

set_option maxRecDepth 100000 in
set_option maxHeartbeats 4000000 in
theorem codeLabels_walk (v : Value) (zs : List Int) (how at' : Int) (w : World) (hN : Nam w) (hS : Spn w) (hs : SlI w v zs) (h1 : -9223372036854775808 ≤ how) (h2 : how ≤ 9223372036854775807) (h3 : -9223372036854775808 ≤ at') (h4 : at' ≤ 9223372036854775807) :
    Calls Tryd.prog 3 #[v, .int .i64 how, .int .i64 at'] w fun e w' => e = .returned (.bool true) ∧ Below w.heap.size w w' := by
  obtain ⟨pa, ca, rfl⟩ := hs.shape
  have HS : Hid (SlI w (.slice pa zs.length ca) zs) := hs
  have HAW : Hid (∀ W, Below w.heap.size w W → Calls Tryd.prog 8 #[] W (RBool true W)) := fun W hW => awake8 W (hN.under hW) (hS.under hW)
  have HPH : Hid (∀ W, Calls Tryd.prog 4 #[.int .i64 how, .int .i64 4] W fun e w' => e = .returned (.int .i64 (how % 4)) ∧ W = w') := fun W => place_any how 4 W (by decide) (by decide) h1 h2
  have HPA : Hid (∀ W (m : Nat), 0 < m → m ≤ 30 → Calls Tryd.prog 4 #[.int .i64 at', .int .i64 (m : Int)] W fun e w' => e = .returned (.int .i64 (at' % (m : Int))) ∧ W = w') := fun W m h h' => place_any at' (m : Int) W (by omega) (by omega) h3 h4
  clear hs hN hS h1 h2 h3 h4
  go_enter Tryd.func3, Tryd.ntmps3
  go_wp2_with fail
  go_loopg [7, 8, 9] 30 (fun gk u7 s8 s9 wr => ∃ i : Nat, i + gk = 30 ∧ s8 = .int .i64 (i : Int) ∧ s9 = .int .i64 (i : Int) ∧ i ≤ zs.length ∧ Hid (CqSt wr w.heap.size u7 (codeL zs i)) ∧ Hid (Below w.heap.size w wr))
  case atStart => exact ⟨0, rfl, rfl, rfl, Nat.zero_le _, CqSt.nil _ _, Below.refl _ _⟩
  case round =>
    obtain ⟨i, hi, rfl, rfl, hiz, HC, HB⟩ := hrel
    have hi30 : i ≤ 30 := by omega
    by_cases hl : i < zs.length ∧ i < 30
    · obtain ⟨hl1, hl2⟩ := hl
      obtain ⟨gko, rfl⟩ : ∃ g, gk = g + 1 := ⟨gk - 1, by omega⟩
      have hl1' : (i : Int) < (zs.length : Int) := by omega
      have hl2' : (i : Int) < 30 := by omega
      obtain ⟨b1, off1, rfl, c1⟩ := HS.out.at i hl1
      have hzb := HS.out.bd i hl1
      have HCZ : Hid ((cZ zs i : Int) = zs.getD i 0 % 3) := by show _ = _; unfold cZ; omega
      obtain ⟨z, hz⟩ : ∃ z, z = zs.getD i 0 := ⟨_, rfl⟩
      rw [← hz] at c1 hzb HCZ
      have hcz : cZ zs i ≤ 2 := by have := HCZ.out; omega
      have hlt1 : b1 < w.heap.size := World.block_lt_of_cell? w ⟨b1, off1 + i, none⟩ c1
      have HCL : Hid (∀ W, Below w.heap.size w W → W.cell? ⟨b1, off1 + i, none⟩ = some (.int .i64 z)) := fun W hW => by rw [hW.cell (p := ⟨b1, off1 + i, none⟩) hlt1]; exact c1
      obtain ⟨cz, hczn⟩ : ∃ cz, cz = cZ zs i := ⟨_, rfl⟩
      rw [← hczn] at HCZ hcz
      have HCN : Hid (cz = cZ zs i) := hczn
      have HP : Hid (∀ W, Calls Tryd.prog 4 #[.int .i64 z, .int .i64 3] W fun e w' => e = .returned (.int .i64 (cz : Int)) ∧ W = w') := fun W => by rw [HCZ.out]; exact place_any z 3 W (by decide) (by decide) hzb.1 hzb.2
      have HI30 : Hid (i + (gko + 1) = 30 ∧ i < zs.length) := ⟨hi, hl1⟩
      clear hz hl1 hi c1 hiz hczn
      go_wp2_with fail
      go_loopg [7, 10] cz (fun gk u7 s10 wr => ∃ k : Nat, k + gk = cz ∧ s10 = .int .i64 (k : Int) ∧ Hid (CqSt wr w.heap.size u7 (codeL zs i ++ List.replicate k inN)) ∧ Hid (Below w.heap.size w wr))
      case atStart => exact ⟨0, by omega, rfl, by show CqSt _ _ _ _; simpa using HC.out, HB.out⟩
      case round =>
        clear HC HB
        obtain ⟨k, hk, rfl, HC, HB⟩ := hrel
        have c1 := HCL.out wr HB.out
        cases gk with
        | succ gki =>
          have hkc : (k : Int) < (cz : Int) := by omega
          have HKK : Hid (k + (gki + 1) = cz) := hk
          clear hk
          go_wp2_with fail
          refine (HP.out _).mono ?_
          rintro e wq ⟨rfl, rfl⟩
          go_wp2_with fail
          refine (OpQ_nil 11 _).mono ?_
          rintro e wA ⟨pA, cA, rfl, gA, bA⟩
          dsimp only [List.length_nil]
          have HGA : Hid (GsQ wA (PlainA wA) (.slice pA 0 cA) []) := gA
          have HCA : Hid (CqSt wA w.heap.size u7 (codeL zs i ++ List.replicate k inN)) := HC.out.under bA
          have HBA : Hid (Below w.heap.size w wA) := HB.out.trans (bA.mono HB.out.size)
          clear gA bA HC HB
          have HCAL : Hid (CqSt (wA.alloc (.cells #[.int .i64 11, .slice pA 0 cA] 27)) w.heap.size u7 (codeL zs i ++ List.replicate k inN)) := HCA.out.under (box_below _ _ _)
          have HBAL : Hid (Below w.heap.size w (wA.alloc (.cells #[.int .i64 11, .slice pA 0 cA] 27))) := HBA.out.alloc HBA.out.size _
          have HXAL : Hid (GsQ (wA.alloc (.cells #[.int .i64 11, .slice pA 0 cA] 27)) (PlainA (wA.alloc (.cells #[.int .i64 11, .slice pA 0 cA] 27))) (.slice pA 0 cA) ([])) := HGA.out.plainB (box_below _ _ _)
          have HLNA : Hid ((codeL zs i ++ List.replicate k inN).length ≤ 100000) := by
            show _ ≤ _
            have := (codeL_len zs i).2; simp; omega
          go_wp2_with (first | (at_builtin; go_loud (refine wpList_append_cq rfl _ _ rfl w.heap.size _ (codeL zs i ++ List.replicate k inN) [inN] [⟨11, pA, 0, cA⟩] rfl HCAL.out rfl (one_ins (n := 0) rfl HXAL.out) ⟨wA.heap.size, 0, none⟩ 1 rfl (new_cells wA (cl2 [⟨11, pA, 0, cA⟩]) 27) (by have := HBAL.out.size; exact this) HLNA.out (by show 1 ≤ 100000; decide) ?_; intro vB wB hB kB; have HCB : Hid (CqSt wB w.heap.size vB (codeL zs i ++ List.replicate k inN ++ [inN])) := hB; have HBB : Hid (Below w.heap.size w wB) := kB w (Nat.le_refl _) HBAL.out; clear hB kB)) | fail)
          clear HCA HBA HGA HCAL HBAL HXAL HLNA
          go_roundg gki
          case measure => omega
          case rel => exact ⟨k + 1, by have := HKK.out; omega, by go_num, by have := HCB.out; rw [List.append_assoc] at this; rw [List.replicate_succ']; exact this, HBB.out⟩
        | zero =>
          obtain rfl : k = cz := by omega
          have hkc : ¬ (k : Int) < (k : Int) := by omega
          clear hk
          go_wp2_with fail
          refine (HP.out _).mono ?_
          rintro e wq ⟨rfl, rfl⟩
          have hib : -9223372036854775808 ≤ (i : Int) + 1 ∧ (i : Int) + 1 ≤ 9223372036854775807 := by omega
          go_wp2_with fail
          refine (U_any ((i : Int) + 1) _).mono ?_
          rintro e wA ⟨rfl, bA⟩
          have HCA : Hid (CqSt wA w.heap.size u7 (codeL zs i ++ List.replicate k inN)) := HC.out.under bA
          have HBA : Hid (Below w.heap.size w wA) := HB.out.trans (bA.mono HB.out.size)
          clear bA HC HB
          have HGA : Hid (GsQ (wA.alloc (.cells #[.int .i64 0, .int .i64 ((i : Int) + 1), .slice none 0 0] 30)) (PlainA (wA.alloc (.cells #[.int .i64 0, .int .i64 ((i : Int) + 1), .slice none 0 0] 30))) (.slice (some ⟨wA.heap.size, 0, none⟩) 1 1) [agS (0, ((i : Int) + 1))]) := gs_one (by decide) hib
          have HAA : Hid (Below wA.heap.size wA (wA.alloc (.cells #[.int .i64 0, .int .i64 ((i : Int) + 1), .slice none 0 0] 30))) := box_below _ _ _
          go_wp2_with fail
          refine (OpQ_any 1 [agS (0, ((i : Int) + 1))] _ 1 _ HGA.out (by show 1 ≤ 1000000; decide)).mono ?_
          rintro e wB ⟨pB, cB, rfl, gB, bB⟩
          dsimp only [List.length_cons, List.length_nil, Nat.zero_add]
          have HGB : Hid (GsQ wB (PlainA wB) (.slice pB 1 cB) [agS (0, ((i : Int) + 1))]) := gB
          have HBxB : Hid (Below wA.heap.size wA wB) := HAA.out.trans (bB.mono HAA.out.size)
          have HCB : Hid (CqSt wB w.heap.size u7 (codeL zs i ++ List.replicate k inN)) := HCA.out.under HBxB.out
          have HBB : Hid (Below w.heap.size w wB) := HBA.out.trans (HBxB.out.mono HBA.out.size)
          clear gB bB HBxB HCA HBA HGA HAA
          have HCBL : Hid (CqSt (wB.alloc (.cells #[.int .i64 1, .slice pB 1 cB] 27)) w.heap.size u7 (codeL zs i ++ List.replicate k inN)) := HCB.out.under (box_below _ _ _)
          have HBBL : Hid (Below w.heap.size w (wB.alloc (.cells #[.int .i64 1, .slice pB 1 cB] 27))) := HBB.out.alloc HBB.out.size _
          have HXBL : Hid (GsQ (wB.alloc (.cells #[.int .i64 1, .slice pB 1 cB] 27)) (PlainA (wB.alloc (.cells #[.int .i64 1, .slice pB 1 cB] 27))) (.slice pB 1 cB) ([agS (0, ((i : Int) + 1))])) := HGB.out.plainB (box_below _ _ _)
          have HLNB : Hid ((codeL zs i ++ List.replicate k inN).length ≤ 100000) := by
            show _ ≤ _
            have := (codeL_len zs i).2; simp; omega
          go_wp2_with (first | (at_builtin; go_loud (refine wpList_append_cq rfl _ _ rfl w.heap.size _ (codeL zs i ++ List.replicate k inN) [inL ((i : Int) + 1)] [⟨1, pB, 1, cB⟩] rfl HCBL.out rfl (one_ins (n := 0) rfl HXBL.out) ⟨wB.heap.size, 0, none⟩ 1 rfl (new_cells wB (cl2 [⟨1, pB, 1, cB⟩]) 27) (by have := HBBL.out.size; exact this) HLNB.out (by show 1 ≤ 100000; decide) ?_; intro vD wD hD kD; have HCD : Hid (CqSt wD w.heap.size vD (codeL zs i ++ List.replicate k inN ++ [inL ((i : Int) + 1)])) := hD; have HBD : Hid (Below w.heap.size w wD) := kD w (Nat.le_refl _) HBBL.out; clear hD kD)) | fail)
          clear HCB HBB HGB HCBL HBBL HXBL HLNB
          go_roundg gko
          case measure => omega
          case rel => exact ⟨i + 1, by have := HI30.out; omega, by go_num, by go_num, by have := HI30.out; omega, by have := HCD.out; rw [HCN.out, List.append_assoc] at this; exact this, HBD.out⟩
    · rcases (show zs.length ≤ i ∨ (i < zs.length ∧ 30 ≤ i) by omega) with hx | ⟨hx1, hx2⟩
      · have hx' : ¬ (i : Int) < (zs.length : Int) := by omega
        clear hi hl hiz
        rcases (show i = 0 ∨ 0 < i by omega) with hi0 | hi0
        · subst hi0
          have HI0 : Hid (IsP (wr.alloc (.cells #[.int .i64 3, .slice none 0 0] 27)) (.slice (some ⟨wr.heap.size, 0, none⟩) 1 1) [inE]) := (cq_lit wr 0 [⟨3, none, 0, 0⟩] [inE] (Nat.zero_le _) rfl (one_ins (n := 0) rfl (gsQ_nil _ _ _ _ (Gs_nil wr))) (by show 1 ≤ 100000; decide)).is
          have HBL : Hid (Below w.heap.size w (wr.alloc (.cells #[.int .i64 3, .slice none 0 0] 27))) := HB.out.alloc HB.out.size _
          clear HC HB
          go_wp2_with fail
          refine (labels_any _ _ [inE] HI0.out (by decide)).mono ?_
          rintro e w1 h
          obtain ⟨b, rfl, hp, b1⟩ : ∃ b, e = .returned (.tuple #[.map (some b), .int .i64 0]) ∧ Pm w1 b [] ∧ Below (wr.alloc (.cells #[.int .i64 3, .slice none 0 0] 27)).heap.size (wr.alloc (.cells #[.int .i64 3, .slice none 0 0] 27)) w1 := by
            have hS : labS [inE] = some [] := rfl
            rcases h with ⟨h, -⟩ | ⟨P, b, h, he, hp, -, hb⟩
            · rw [hS] at h; cases h
            · rw [hS] at h; injection h with h; subst h; exact ⟨b, he, hp, hb⟩
          obtain ⟨D, hown, -, -, hsz⟩ := hp
          have HOWN : Hid _ := hown
          have HSZ : Hid (Maps.size D = 0) := hsz
          have HB1 : Hid (Below w.heap.size w w1) := HBL.out.trans (b1.mono HBL.out.size)
          clear hown hsz b1 h HBL HI0
          have hlen1 : ∀ ty, (Builtin.len_ #[32] ty #[.map (some b)]).run Tryd.prog w1 = .ok (.int .i64 0) w1 := fun ty => by have h := World.ownsMap.len HOWN.out Tryd.underlying32 ty; rw [HSZ.out] at h; exact h
          go_wp2_with fail
          refine (HAW.out _ HB1.out).mono ?_
          rintro e wH ⟨rfl, bH⟩
          have HBH : Hid (Below w.heap.size w wH) := HB1.out.trans (bH.mono HB1.out.size)
          go_wp2_with fail
          go_ret
          exact ⟨rfl, HBH.out⟩
        · have hine : ((i : Int) == 0) = false := by simp; omega
          have hqr : 0 ≤ at' % (i : Int) ∧ at' % (i : Int) < (i : Int) := ⟨Int.emod_nonneg _ (by omega), Int.emod_lt_of_pos _ (by omega)⟩
          have HPQ : Hid (∀ W, Calls Tryd.prog 4 #[.int .i64 at', .int .i64 (i : Int)] W fun e w' => e = .returned (.int .i64 (at' % (i : Int))) ∧ W = w') := fun W => HPA.out W i hi0 hi30
          obtain ⟨q0, hq0⟩ : ∃ q0, q0 = at' % (i : Int) := ⟨_, rfl⟩
          rw [← hq0] at HPQ hqr
          obtain ⟨q, hq⟩ : ∃ q, 1 + q0 = q := ⟨_, rfl⟩
          have hqb : 1 ≤ q ∧ q ≤ (i : Int) := by omega
          have hqi : -9223372036854775808 ≤ q ∧ q ≤ 9223372036854775807 := by omega
          clear hq0
          go_wp2_with fail
          refine (HPQ.out _).mono ?_
          rintro e wq ⟨rfl, rfl⟩
          go_wp2_with fail
          refine (F_any q _).mono ?_
          rintro e wA ⟨rfl, bA⟩
          have HCA : Hid (CqSt wA w.heap.size u7 (codeL zs i)) := HC.out.under bA
          have HBA : Hid (Below w.heap.size w wA) := HB.out.trans (bA.mono HB.out.size)
          clear bA HC HB
          have HGA : Hid (GsQ (wA.alloc (.cells #[.int .i64 5, .int .i64 q, .slice none 0 0] 30)) (PlainA (wA.alloc (.cells #[.int .i64 5, .int .i64 q, .slice none 0 0] 30))) (.slice (some ⟨wA.heap.size, 0, none⟩) 1 1) [agS (5, q)]) := gs_one (by decide) hqi
          have HAA : Hid (Below wA.heap.size wA (wA.alloc (.cells #[.int .i64 5, .int .i64 q, .slice none 0 0] 30))) := box_below _ _ _
          go_wp2_with fail
          refine (OpQ_any 5 [agS (5, q)] _ 1 _ HGA.out (by show 1 ≤ 1000000; decide)).mono ?_
          rintro e wB ⟨pB, cB, rfl, gB, bB⟩
          dsimp only [List.length_cons, List.length_nil, Nat.zero_add]
          have HGB : Hid (GsQ wB (PlainA wB) (.slice pB 1 cB) [agS (5, q)]) := gB
          have HBxB : Hid (Below wA.heap.size wA wB) := HAA.out.trans (bB.mono HAA.out.size)
          have HCB : Hid (CqSt wB w.heap.size u7 (codeL zs i)) := HCA.out.under HBxB.out
          have HBB : Hid (Below w.heap.size w wB) := HBA.out.trans (HBxB.out.mono HBA.out.size)
          clear gB bB HBxB HCA HBA HGA HAA
          go_wp2_with fail
          refine (OpQ_nil 3 _).mono ?_
          rintro e wD ⟨pD, cD, rfl, gD, bD⟩
          dsimp only [List.length_nil]
          have HGB2 : Hid (GsQ wD (PlainA wD) (.slice pB 1 cB) [agS (5, q)]) := HGB.out.plainB bD
          have HGD : Hid (GsQ wD (PlainA wD) (.slice pD 0 cD) []) := gD
          have HCD : Hid (CqSt wD w.heap.size u7 (codeL zs i)) := HCB.out.under bD
          have HBD : Hid (Below w.heap.size w wD) := HBB.out.trans (bD.mono HBB.out.size)
          clear gD bD HCB HBB HGB
          have HCDL : Hid (CqSt (wD.alloc (.cells #[.int .i64 5, .slice pB 1 cB, .int .i64 3, .slice pD 0 cD] 27)) w.heap.size u7 (codeL zs i)) := HCD.out.under (box_below _ _ _)
          have HBDL : Hid (Below w.heap.size w (wD.alloc (.cells #[.int .i64 5, .slice pB 1 cB, .int .i64 3, .slice pD 0 cD] 27))) := HBD.out.alloc HBD.out.size _
          have HX1 : Hid (GsQ (wD.alloc (.cells #[.int .i64 5, .slice pB 1 cB, .int .i64 3, .slice pD 0 cD] 27)) (PlainA (wD.alloc (.cells #[.int .i64 5, .slice pB 1 cB, .int .i64 3, .slice pD 0 cD] 27))) (.slice pB 1 cB) [agS (5, q)]) := HGB2.out.plainB (box_below _ _ _)
          have HX2 : Hid (GsQ (wD.alloc (.cells #[.int .i64 5, .slice pB 1 cB, .int .i64 3, .slice pD 0 cD] 27)) (PlainA (wD.alloc (.cells #[.int .i64 5, .slice pB 1 cB, .int .i64 3, .slice pD 0 cD] 27))) (.slice pD 0 cD) []) := HGD.out.plainB (box_below _ _ _)
          have HLND : Hid ((codeL zs i).length ≤ 100000) := by
            show _ ≤ _
            have := (codeL_len zs i).2; omega
          go_wp2_with (first | (at_builtin; go_loud (refine wpList_append_cq rfl _ _ rfl w.heap.size u7 (codeL zs i) [inF q, inE] [⟨5, pB, 1, cB⟩, ⟨3, pD, 0, cD⟩] rfl HCDL.out rfl (two_ins rfl rfl HX1.out HX2.out) ⟨wD.heap.size, 0, none⟩ 2 rfl (new_cells wD (cl2 [⟨5, pB, 1, cB⟩, ⟨3, pD, 0, cD⟩]) 27) (by have := HBDL.out.size; exact this) HLND.out (by show 2 ≤ 100000; decide) ?_; intro v3 w3 h3 k3; have HC3 : Hid (CqSt w3 w.heap.size v3 (codeQ zs i q)) := h3; have HB3 : Hid (Below w.heap.size w w3) := k3 w (Nat.le_refl _) HBDL.out; obtain ⟨pv, cv, rfl, hcv1, hcv2⟩ := HC3.out.shape; clear h3 k3)) | fail)
          clear HCD HBD HGB2 HGD HCDL HBDL HX1 HX2 HLND
          have HLB : Hid (Calls Tryd.prog 7 #[.slice pv (codeQ zs i q).length cv] w3 fun e w' => LabPost w3 (codeQ zs i q) e w') := labels_any w3 _ (codeQ zs i q) HC3.out.is (by have := codeQ_wt zs i q hi30 [] (by decide) (fun i h => by cases h); rwa [List.append_nil] at this)
          have HSS : Hid (labS (codeQ zs i q) = some (posL zs i)) := labS_code zs i q hi30 hqb
          obtain ⟨lq, hlq⟩ : ∃ lq, lq = (codeQ zs i q).length := ⟨_, rfl⟩
          have hlqb : lq ≤ 1000 := by have h1 := (codeL_len zs i).2; have h2 := codeQ_len zs i q; omega
          have HLQ : Hid (lq = (codeQ zs i q).length) := hlq
          rw [← hlq] at HLB hcv1 ⊢
          clear hlq
          go_wp2_with fail
          refine HLB.out.mono ?_
          rintro e w4 h
          obtain ⟨b, rfl, hp, b4⟩ : ∃ b, e = .returned (.tuple #[.map (some b), .int .i64 0]) ∧ Pm w4 b (posL zs i) ∧ Below w3.heap.size w3 w4 := by
            rcases h with ⟨h, -⟩ | ⟨P, b, h, he, hp, -, hb⟩
            · rw [HSS.out] at h; cases h
            · rw [HSS.out] at h; injection h with h; subst h; exact ⟨b, he, hp, hb⟩
          obtain ⟨D, hown, hhas, hat, hsz⟩ := hp
          have HOWN : Hid (w4.ownsMap Tryd.prog 3 (plainElem Tryd.prog 3) b (posL zs i).length D) := hown
          have HHS : Hid (∀ n, Maps.has D (.int .i64 n) = hasP (posL zs i) n) := hhas
          have HAT : Hid (∀ n k, (n, k) ∈ posL zs i → D.atKey (.int .i64 n) (.lit (.int .i64 0)) = .lit (.int .i64 (k : Int))) := hat
          have HSZ : Hid (Maps.size D = i) := by show _ = _; rw [hsz, posL_len]
          have HB4 : Hid (Below w.heap.size w w4) := HB3.out.trans (b4.mono HB3.out.size)
          have HC4 : Hid (CqSt w4 w.heap.size (.slice pv lq cv) (codeQ zs i q)) := by have h := HC3.out.under b4; rw [← HLQ.out] at h; exact h
          clear hown hhas hat hsz b4 h HLB HC3 HB3
          have hnn : ((i : Int) != (i : Int)) = false := by simp
          have hlen1 : ∀ ty, (Builtin.len_ #[32] ty #[.map (some b)]).run Tryd.prog w4 = .ok (.int .i64 (i : Int)) w4 := fun ty => by have h := World.ownsMap.len HOWN.out Tryd.underlying32 ty; rw [HSZ.out] at h; exact h
          go_wp2_with fail
          go_loopg [15] i (fun gk s15 wr => ∃ j : Nat, j + gk = i + 1 ∧ 1 ≤ j ∧ s15 = .int .i64 (j : Int) ∧ w4 = wr)
          case atStart => exact ⟨1, by omega, Nat.le_refl _, by go_num, rfl⟩
          case round =>
            obtain ⟨j, hj, hj1, rfl, rfl⟩ := hrel
            by_cases hji : j ≤ i
            · obtain ⟨gkj, rfl⟩ : ∃ g, gk = g + 1 := ⟨gk - 1, by omega⟩
              have hji' : (j : Int) ≤ (i : Int) := by omega
              obtain ⟨k, hk⟩ := hasP_mem.1 ((posL_has zs i (j : Int)).2 ⟨by omega, hji'⟩)
              have HJH : Hid (Maps.has D (.int .i64 (j : Int)) = true) := by show _ = _; rw [HHS.out]; exact (posL_has zs i (j : Int)).2 ⟨by omega, hji'⟩
              have HJA : Hid (D.atKey (.int .i64 (j : Int)) (.lit (.int .i64 0)) = .lit (.int .i64 (k : Int))) := HAT.out _ _ hk
              obtain ⟨-, hkl, ho, hn, -⟩ : 0 ≤ k ∧ ∃ h : k - 0 < (codeQ zs i q).length, (codeQ zs i q)[k - 0].op = 1 ∧ numL (codeQ zs i q)[k - 0] = (j : Int) ∧ 1 ≤ (j : Int) := by
                rcases labF_spec _ _ _ _ (lab_code zs i q hi30) _ _ hk with h | h
                · simp at h
                · exact h
              have hk0 : k - 0 = k := Nat.sub_zero k
              simp only [Nat.sub_zero] at ho hn hkl
              obtain ⟨bx, offx, b2, off2, mm, cc2, rfl, x0, x1, x2⟩ := HC4.out.is.label k hkl (j : Int) ho hn (by omega)
              have hkq : (k : Int) < (lq : Int) := by have := HLQ.out; omega
              have hk00 : ¬ (k : Int) < 0 := by omega
              have hkq2 : ¬ (lq : Int) ≤ (k : Int) := by omega
              have hjj : ((j : Int) != (j : Int)) = false := by simp
              have hm0 : (0 : Int) < ((mm + 1 : Nat) : Int) := by omega
              have hkey : keyOf Tryd.prog 3 (.int .i64 (j : Int)) = some (.int .i64 (j : Int)) := keyOf_int_mk Tryd.underlying3 (by simp [Lit.wf, IntKind.min, IntKind.max, IntKind.signed, IntKind.bits]; omega)
              have HJJ : Hid (j + (gkj + 1) = i + 1) := hj
              clear hk ho hn hkl hj hk0
              go_wp2_with (first | (at_lookup; go_loud (refine wpList_lookup_own_ok_int _ rfl _ _ 32 rfl 3 3 .i64 lawI Tryd.underlying32 Tryd.underlying3 (zeroI _) b (posL zs i).length D rfl HOWN.out _ _ rfl hkey ?_; intro cc hcc hwc; obtain rfl : cc = (k : Int) := (by have h := HJA.out; rw [hcc] at h; injection h with h; injection h); rw [HJH.out]; clear hcc hwc)) | fail)
              go_roundg gkj
              case measure => omega
              case rel => exact ⟨j + 1, by have := HJJ.out; omega, by omega, by go_num, rfl⟩
            · have hji' : ¬ (j : Int) ≤ (i : Int) := by omega
              clear hj
              have hh4 : 0 ≤ how % 4 ∧ how % 4 < 4 := by omega
              go_wp2_with fail
              refine (HPH.out _).mono ?_
              rintro e wq ⟨rfl, rfl⟩
              generalize how % 4 = t at *
              have hib : -9223372036854775808 ≤ (i : Int) ∧ (i : Int) ≤ 9223372036854775807 := by omega
              have hib1 : -9223372036854775808 ≤ (i : Int) + 1 ∧ (i : Int) + 1 ≤ 9223372036854775807 := by omega
              rcases (show t = 0 ∨ t = 1 ∨ t = 2 ∨ t = 3 by omega) with rfl | rfl | rfl | rfl
              · go_wp2_with fail
                refine (U_any (i : Int) _).mono ?_
                rintro e wA ⟨rfl, bA⟩
                have HCA : Hid (CqSt wA w.heap.size (.slice pv lq cv) (codeQ zs i q)) := HC4.out.under bA
                have HBA : Hid (Below w.heap.size w wA) := HB4.out.trans (bA.mono HB4.out.size)
                clear bA HC4 HB4
                have HGA : Hid (GsQ (wA.alloc (.cells #[.int .i64 0, .int .i64 (i : Int), .slice none 0 0] 30)) (PlainA (wA.alloc (.cells #[.int .i64 0, .int .i64 (i : Int), .slice none 0 0] 30))) (.slice (some ⟨wA.heap.size, 0, none⟩) 1 1) [agS (0, (i : Int))]) := gs_one (by decide) hib
                have HAA : Hid (Below wA.heap.size wA (wA.alloc (.cells #[.int .i64 0, .int .i64 (i : Int), .slice none 0 0] 30))) := box_below _ _ _
                go_wp2_with fail
                refine (OpQ_any 1 [agS (0, (i : Int))] _ 1 _ HGA.out (by show 1 ≤ 1000000; decide)).mono ?_
                rintro e wB ⟨pB, cB, rfl, gB, bB⟩
                dsimp only [List.length_cons, List.length_nil, Nat.zero_add]
                have HGB : Hid (GsQ wB (PlainA wB) (.slice pB 1 cB) [agS (0, (i : Int))]) := gB
                have HBxB : Hid (Below wA.heap.size wA wB) := HAA.out.trans (bB.mono HAA.out.size)
                have HCB : Hid (CqSt wB w.heap.size (.slice pv lq cv) (codeQ zs i q)) := HCA.out.under HBxB.out
                have HBB : Hid (Below w.heap.size w wB) := HBA.out.trans (HBxB.out.mono HBA.out.size)
                clear gB bB HBxB HCA HBA HGA HAA
                obtain ⟨gz, cz, hve, hbg, hgl, ⟨y0, y1, hy0, hy1⟩, hf0, hf1, hcz⟩ := cq_first (i := inL (i : Int)) (x := ⟨1, pB, 1, cB⟩) HCB.out (by have h2 := codeQ_len zs i q; omega) rfl HGB.out
                injection hve with hv1 hv2 hv3
                subst hv1; subst hv3
                have HCS : Hid (CqSt ((wB.setCell ⟨gz, 0, none⟩ (.int .i64 1)).setCell ⟨gz, 1, none⟩ (.slice pB 1 cB)) w.heap.size (.slice (some ⟨gz, 0, none⟩) lq cv) ((codeQ zs i q).set 0 (inL (i : Int)))) := hcz
                have HBS : Hid (Below w.heap.size w ((wB.setCell ⟨gz, 0, none⟩ (.int .i64 1)).setCell ⟨gz, 1, none⟩ (.slice pB 1 cB))) := (HBB.out.setCell (by exact hbg) _).setCell (by exact hbg) _
                have hlq0 : (0 : Int) < (lq : Int) := by have h1 := HLQ.out; have h2 := codeQ_len zs i q; omega
                clear HCB HBB HGB hcz hv2
                go_wp2_with fail
                generalize (wB.setCell ⟨gz, 0, none⟩ (.int .i64 1)).setCell ⟨gz, 1, none⟩ (.slice pB 1 cB) = wS at *
                refine (U_any (i : Int) _).mono ?_
                rintro e wE ⟨rfl, bE⟩
                have HCE : Hid (CqSt wE w.heap.size (.slice (some ⟨gz, 0, none⟩) lq cv) ((codeQ zs i q).set 0 (inL (i : Int)))) := HCS.out.under bE
                have HBE : Hid (Below w.heap.size w wE) := HBS.out.trans (bE.mono HBS.out.size)
                clear bE HCS HBS
                have HGE : Hid (GsQ (wE.alloc (.cells #[.int .i64 0, .int .i64 (i : Int), .slice none 0 0] 30)) (PlainA (wE.alloc (.cells #[.int .i64 0, .int .i64 (i : Int), .slice none 0 0] 30))) (.slice (some ⟨wE.heap.size, 0, none⟩) 1 1) [agS (0, (i : Int))]) := gs_one (by decide) hib
                have HAE : Hid (Below wE.heap.size wE (wE.alloc (.cells #[.int .i64 0, .int .i64 (i : Int), .slice none 0 0] 30))) := box_below _ _ _
                go_wp2_with fail
                refine (OpQ_any 1 [agS (0, (i : Int))] _ 1 _ HGE.out (by show 1 ≤ 1000000; decide)).mono ?_
                rintro e wF ⟨pF, cF, rfl, gF, bF⟩
                dsimp only [List.length_cons, List.length_nil, Nat.zero_add]
                have HGF : Hid (GsQ wF (PlainA wF) (.slice pF 1 cF) [agS (0, (i : Int))]) := gF
                have HBxF : Hid (Below wE.heap.size wE wF) := HAE.out.trans (bF.mono HAE.out.size)
                have HCF : Hid (CqSt wF w.heap.size (.slice (some ⟨gz, 0, none⟩) lq cv) ((codeQ zs i q).set 0 (inL (i : Int)))) := HCE.out.under HBxF.out
                have HBF : Hid (Below w.heap.size w wF) := HBE.out.trans (HBxF.out.mono HBE.out.size)
                clear gF bF HBxF HCE HBE HGE HAE
                have HCFL : Hid (CqSt (wF.alloc (.cells #[.int .i64 1, .slice pF 1 cF] 27)) w.heap.size (.slice (some ⟨gz, 0, none⟩) lq cv) ((codeQ zs i q).set 0 (inL (i : Int)))) := HCF.out.under (box_below _ _ _)
                have HBFL : Hid (Below w.heap.size w (wF.alloc (.cells #[.int .i64 1, .slice pF 1 cF] 27))) := HBF.out.alloc HBF.out.size _
                have HXFL : Hid (GsQ (wF.alloc (.cells #[.int .i64 1, .slice pF 1 cF] 27)) (PlainA (wF.alloc (.cells #[.int .i64 1, .slice pF 1 cF] 27))) (.slice pF 1 cF) ([agS (0, (i : Int))])) := HGF.out.plainB (box_below _ _ _)
                have HLNF : Hid (((codeQ zs i q).set 0 (inL (i : Int))).length ≤ 100000) := by
                  show _ ≤ _
                  have h1 := (codeL_len zs i).2; have h2 := codeQ_len zs i q; simp; omega
                go_wp2_with (first | (at_builtin; go_loud (refine wpList_append_cq rfl _ _ rfl w.heap.size _ ((codeQ zs i q).set 0 (inL (i : Int))) [inL (i : Int)] [⟨1, pF, 1, cF⟩] rfl HCFL.out rfl (one_ins (n := 0) rfl HXFL.out) ⟨wF.heap.size, 0, none⟩ 1 rfl (new_cells wF (cl2 [⟨1, pF, 1, cF⟩]) 27) (by have := HBFL.out.size; exact this) HLNF.out (by show 1 ≤ 100000; decide) ?_; intro vK wK hK kK; have HCK : Hid (CqSt wK w.heap.size vK ((codeQ zs i q).set 0 (inL (i : Int)) ++ [inL (i : Int)])) := hK; have HBK : Hid (Below w.heap.size w wK) := kK w (Nat.le_refl _) HBFL.out; clear hK kK)) | fail)
                clear HCF HBF HGF HCFL HBFL HXFL HLNF
                have HLB : Hid (Calls Tryd.prog 7 #[vK] wK fun e w' => LabPost wK ((codeQ zs i q).set 0 (inL (i : Int)) ++ [inL (i : Int)]) e w') := labels_any wK vK ((codeQ zs i q).set 0 (inL (i : Int)) ++ [inL (i : Int)]) HCK.out.is (set_wt zs i q hi30 hi0)
                have hlen0 : ∀ ty W, (Builtin.len_ #[32] ty #[.map none]).run Tryd.prog W = .ok (.int .i64 0) W := fun ty W => Maps.len_nil Tryd.underlying32 ty
                go_wp2_with fail
                refine HLB.out.mono ?_
                rintro e wG hG
                obtain ⟨-, rfl, bG⟩ : labS ((codeQ zs i q).set 0 (inL (i : Int)) ++ [inL (i : Int)]) = none ∧ e = .returned (.tuple #[.map none, .int .i64 11]) ∧ Below wK.heap.size wK wG := by
                  rcases hG with hG | ⟨P, b, hs, -⟩
                  · exact hG
                  · rw [lab_first zs i q (i : Int) hi0] at hs; cases hs
                have HBG : Hid (Below w.heap.size w wG) := HBK.out.trans (bG.mono HBK.out.size)
                clear hG bG HLB HCK HBK
                go_wp2_with fail
                refine (HAW.out _ HBG.out).mono ?_
                rintro e wH ⟨rfl, bH⟩
                have HBH : Hid (Below w.heap.size w wH) := HBG.out.trans (bH.mono HBG.out.size)
                go_wp2_with fail
                go_ret
                exact ⟨rfl, HBH.out⟩
              · go_wp2_with fail
                refine (U_any 0 _).mono ?_
                rintro e wA ⟨rfl, bA⟩
                have HCA : Hid (CqSt wA w.heap.size (.slice pv lq cv) (codeQ zs i q)) := HC4.out.under bA
                have HBA : Hid (Below w.heap.size w wA) := HB4.out.trans (bA.mono HB4.out.size)
                clear bA HC4 HB4
                have HGA : Hid (GsQ (wA.alloc (.cells #[.int .i64 0, .int .i64 0, .slice none 0 0] 30)) (PlainA (wA.alloc (.cells #[.int .i64 0, .int .i64 0, .slice none 0 0] 30))) (.slice (some ⟨wA.heap.size, 0, none⟩) 1 1) [agS (0, 0)]) := gs_one (by decide) (by decide)
                have HAA : Hid (Below wA.heap.size wA (wA.alloc (.cells #[.int .i64 0, .int .i64 0, .slice none 0 0] 30))) := box_below _ _ _
                go_wp2_with fail
                refine (OpQ_any 1 [agS (0, 0)] _ 1 _ HGA.out (by show 1 ≤ 1000000; decide)).mono ?_
                rintro e wB ⟨pB, cB, rfl, gB, bB⟩
                dsimp only [List.length_cons, List.length_nil, Nat.zero_add]
                have HGB : Hid (GsQ wB (PlainA wB) (.slice pB 1 cB) [agS (0, 0)]) := gB
                have HBxB : Hid (Below wA.heap.size wA wB) := HAA.out.trans (bB.mono HAA.out.size)
                have HCB : Hid (CqSt wB w.heap.size (.slice pv lq cv) (codeQ zs i q)) := HCA.out.under HBxB.out
                have HBB : Hid (Below w.heap.size w wB) := HBA.out.trans (HBxB.out.mono HBA.out.size)
                clear gB bB HBxB HCA HBA HGA HAA
                have HCBL : Hid (CqSt (wB.alloc (.cells #[.int .i64 1, .slice pB 1 cB] 27)) w.heap.size (.slice pv lq cv) (codeQ zs i q)) := HCB.out.under (box_below _ _ _)
                have HBBL : Hid (Below w.heap.size w (wB.alloc (.cells #[.int .i64 1, .slice pB 1 cB] 27))) := HBB.out.alloc HBB.out.size _
                have HXBL : Hid (GsQ (wB.alloc (.cells #[.int .i64 1, .slice pB 1 cB] 27)) (PlainA (wB.alloc (.cells #[.int .i64 1, .slice pB 1 cB] 27))) (.slice pB 1 cB) ([agS (0, 0)])) := HGB.out.plainB (box_below _ _ _)
                have HLNB : Hid ((codeQ zs i q).length ≤ 100000) := by
                  show _ ≤ _
                  have h1 := (codeL_len zs i).2; have h2 := codeQ_len zs i q; omega
                go_wp2_with (first | (at_builtin; go_loud (refine wpList_append_cq rfl _ _ rfl w.heap.size _ (codeQ zs i q) [inL 0] [⟨1, pB, 1, cB⟩] rfl HCBL.out rfl (one_ins (n := 0) rfl HXBL.out) ⟨wB.heap.size, 0, none⟩ 1 rfl (new_cells wB (cl2 [⟨1, pB, 1, cB⟩]) 27) (by have := HBBL.out.size; exact this) HLNB.out (by show 1 ≤ 100000; decide) ?_; intro vK wK hK kK; have HCK : Hid (CqSt wK w.heap.size vK (codeQ zs i q ++ [inL 0])) := hK; have HBK : Hid (Below w.heap.size w wK) := kK w (Nat.le_refl _) HBBL.out; clear hK kK)) | fail)
                clear HCB HBB HGB HCBL HBBL HXBL HLNB
                have HLB : Hid (Calls Tryd.prog 7 #[vK] wK fun e w' => LabPost wK (codeQ zs i q ++ [inL 0]) e w') := labels_any wK vK (codeQ zs i q ++ [inL 0]) HCK.out.is (codeQ_wt zs i q hi30 [inL 0] (by show 1 ≤ 10; decide) (fun x h => by simp only [List.mem_singleton] at h; subst h; exact szK_one 0 0))
                have hlen0 : ∀ ty W, (Builtin.len_ #[32] ty #[.map none]).run Tryd.prog W = .ok (.int .i64 0) W := fun ty W => Maps.len_nil Tryd.underlying32 ty
                go_wp2_with fail
                refine HLB.out.mono ?_
                rintro e wG hG
                obtain ⟨-, rfl, bG⟩ : labS (codeQ zs i q ++ [inL 0]) = none ∧ e = .returned (.tuple #[.map none, .int .i64 11]) ∧ Below wK.heap.size wK wG := by
                  rcases hG with hG | ⟨P, b, hs, -⟩
                  · exact hG
                  · rw [labS_none (labF_bad (A := codeQ zs i q) (B := [inL 0]) (j := inL 0) (by simp) rfl (by decide) _ _)] at hs; cases hs
                have HBG : Hid (Below w.heap.size w wG) := HBK.out.trans (bG.mono HBK.out.size)
                clear hG bG HLB HCK HBK
                go_wp2_with fail
                refine (HAW.out _ HBG.out).mono ?_
                rintro e wH ⟨rfl, bH⟩
                have HBH : Hid (Below w.heap.size w wH) := HBG.out.trans (bH.mono HBG.out.size)
                go_wp2_with fail
                go_ret
                exact ⟨rfl, HBH.out⟩
              · go_wp2_with fail
                refine (F_any ((i : Int) + 1) _).mono ?_
                rintro e wA ⟨rfl, bA⟩
                have HCA : Hid (CqSt wA w.heap.size (.slice pv lq cv) (codeQ zs i q)) := HC4.out.under bA
                have HBA : Hid (Below w.heap.size w wA) := HB4.out.trans (bA.mono HB4.out.size)
                clear bA HC4 HB4
                have HGA : Hid (GsQ (wA.alloc (.cells #[.int .i64 5, .int .i64 ((i : Int) + 1), .slice none 0 0] 30)) (PlainA (wA.alloc (.cells #[.int .i64 5, .int .i64 ((i : Int) + 1), .slice none 0 0] 30))) (.slice (some ⟨wA.heap.size, 0, none⟩) 1 1) [agS (5, ((i : Int) + 1))]) := gs_one (by decide) hib1
                have HAA : Hid (Below wA.heap.size wA (wA.alloc (.cells #[.int .i64 5, .int .i64 ((i : Int) + 1), .slice none 0 0] 30))) := box_below _ _ _
                go_wp2_with fail
                refine (OpQ_any 5 [agS (5, ((i : Int) + 1))] _ 1 _ HGA.out (by show 1 ≤ 1000000; decide)).mono ?_
                rintro e wB ⟨pB, cB, rfl, gB, bB⟩
                dsimp only [List.length_cons, List.length_nil, Nat.zero_add]
                have HGB : Hid (GsQ wB (PlainA wB) (.slice pB 1 cB) [agS (5, ((i : Int) + 1))]) := gB
                have HBxB : Hid (Below wA.heap.size wA wB) := HAA.out.trans (bB.mono HAA.out.size)
                have HCB : Hid (CqSt wB w.heap.size (.slice pv lq cv) (codeQ zs i q)) := HCA.out.under HBxB.out
                have HBB : Hid (Below w.heap.size w wB) := HBA.out.trans (HBxB.out.mono HBA.out.size)
                clear gB bB HBxB HCA HBA HGA HAA
                have HCBL : Hid (CqSt (wB.alloc (.cells #[.int .i64 5, .slice pB 1 cB] 27)) w.heap.size (.slice pv lq cv) (codeQ zs i q)) := HCB.out.under (box_below _ _ _)
                have HBBL : Hid (Below w.heap.size w (wB.alloc (.cells #[.int .i64 5, .slice pB 1 cB] 27))) := HBB.out.alloc HBB.out.size _
                have HXBL : Hid (GsQ (wB.alloc (.cells #[.int .i64 5, .slice pB 1 cB] 27)) (PlainA (wB.alloc (.cells #[.int .i64 5, .slice pB 1 cB] 27))) (.slice pB 1 cB) ([agS (5, ((i : Int) + 1))])) := HGB.out.plainB (box_below _ _ _)
                have HLNB : Hid ((codeQ zs i q).length ≤ 100000) := by
                  show _ ≤ _
                  have h1 := (codeL_len zs i).2; have h2 := codeQ_len zs i q; omega
                go_wp2_with (first | (at_builtin; go_loud (refine wpList_append_cq rfl _ _ rfl w.heap.size _ (codeQ zs i q) [inF ((i : Int) + 1)] [⟨5, pB, 1, cB⟩] rfl HCBL.out rfl (one_ins (n := 0) rfl HXBL.out) ⟨wB.heap.size, 0, none⟩ 1 rfl (new_cells wB (cl2 [⟨5, pB, 1, cB⟩]) 27) (by have := HBBL.out.size; exact this) HLNB.out (by show 1 ≤ 100000; decide) ?_; intro vK wK hK kK; have HCK : Hid (CqSt wK w.heap.size vK (codeQ zs i q ++ [inF ((i : Int) + 1)])) := hK; have HBK : Hid (Below w.heap.size w wK) := kK w (Nat.le_refl _) HBBL.out; clear hK kK)) | fail)
                clear HCB HBB HGB HCBL HBBL HXBL HLNB
                have HLB : Hid (Calls Tryd.prog 7 #[vK] wK fun e w' => LabPost wK (codeQ zs i q ++ [inF ((i : Int) + 1)]) e w') := labels_any wK vK (codeQ zs i q ++ [inF ((i : Int) + 1)]) HCK.out.is (codeQ_wt zs i q hi30 [inF ((i : Int) + 1)] (by show 1 ≤ 10; decide) (fun x h => by simp only [List.mem_singleton] at h; subst h; exact szK_one 5 _))
                have hlen0 : ∀ ty W, (Builtin.len_ #[32] ty #[.map none]).run Tryd.prog W = .ok (.int .i64 0) W := fun ty W => Maps.len_nil Tryd.underlying32 ty
                go_wp2_with fail
                refine HLB.out.mono ?_
                rintro e wG hG
                obtain ⟨-, rfl, bG⟩ : labS (codeQ zs i q ++ [inF ((i : Int) + 1)]) = none ∧ e = .returned (.tuple #[.map none, .int .i64 11]) ∧ Below wK.heap.size wK wG := by
                  rcases hG with hG | ⟨P, b, hs, -⟩
                  · exact hG
                  · rw [labS_not zs i q (inF ((i : Int) + 1)) hi30 (by show (5 : Int) ≠ 1; decide) (by rw [there_F, bad_no]; rfl)] at hs; cases hs
                have HBG : Hid (Below w.heap.size w wG) := HBK.out.trans (bG.mono HBK.out.size)
                clear hG bG HLB HCK HBK
                go_wp2_with fail
                refine (HAW.out _ HBG.out).mono ?_
                rintro e wH ⟨rfl, bH⟩
                have HBH : Hid (Below w.heap.size w wH) := HBG.out.trans (bH.mono HBG.out.size)
                go_wp2_with fail
                go_ret
                exact ⟨rfl, HBH.out⟩
              · go_wp2_with fail
                refine (X_any 0 _).mono ?_
                rintro e wA ⟨rfl, bA⟩
                have HCA : Hid (CqSt wA w.heap.size (.slice pv lq cv) (codeQ zs i q)) := HC4.out.under bA
                have HBA : Hid (Below w.heap.size w wA) := HB4.out.trans (bA.mono HB4.out.size)
                clear bA HC4 HB4
                go_wp2_with fail
                refine (F_any 1 _).mono ?_
                rintro e wB ⟨rfl, bB⟩
                have HCB : Hid (CqSt wB w.heap.size (.slice pv lq cv) (codeQ zs i q)) := HCA.out.under bB
                have HBB : Hid (Below w.heap.size w wB) := HBA.out.trans (bB.mono HBA.out.size)
                clear bB HCA HBA
                go_wp2_with fail
                refine (I_any 1 _).mono ?_
                rintro e wD ⟨rfl, bD⟩
                have HCD : Hid (CqSt wD w.heap.size (.slice pv lq cv) (codeQ zs i q)) := HCB.out.under bD
                have HBD : Hid (Below w.heap.size w wD) := HBB.out.trans (bD.mono HBB.out.size)
                clear bD HCB HBB
                go_wp2_with fail
                refine (F_any ((i : Int) + 1) _).mono ?_
                rintro e wE ⟨rfl, bE⟩
                have HCE : Hid (CqSt wE w.heap.size (.slice pv lq cv) (codeQ zs i q)) := HCD.out.under bE
                have HBE : Hid (Below w.heap.size w wE) := HBD.out.trans (bE.mono HBD.out.size)
                clear bE HCD HBD
                have HGE : Hid (GsQ (wE.alloc (.cells #[.int .i64 1, .int .i64 1, .slice none 0 0, .int .i64 5, .int .i64 ((i : Int) + 1), .slice none 0 0] 30)) (PlainA (wE.alloc (.cells #[.int .i64 1, .int .i64 1, .slice none 0 0, .int .i64 5, .int .i64 ((i : Int) + 1), .slice none 0 0] 30))) (.slice (some ⟨wE.heap.size, 0, none⟩) 2 2) [agS (1, 1), agS (5, ((i : Int) + 1))]) := gs_two (by decide) (by decide) (by decide) hib1
                have HAE : Hid (Below wE.heap.size wE (wE.alloc (.cells #[.int .i64 1, .int .i64 1, .slice none 0 0, .int .i64 5, .int .i64 ((i : Int) + 1), .slice none 0 0] 30))) := box_below _ _ _
                go_wp2_with fail
                refine (SQ_any [agS (1, 1), agS (5, ((i : Int) + 1))] _ 2 _ HGE.out (by show 2 ≤ 1000000; decide)).mono ?_
                rintro e wS ⟨pS, cS, rfl, hcS1, hcS2, gS, bS⟩
                dsimp only [List.length_cons, List.length_nil, Nat.zero_add, Nat.reduceAdd]
                have HBxS : Hid (Below wE.heap.size wE wS) := HAE.out.trans (bS.mono HAE.out.size)
                have HCS : Hid (CqSt wS w.heap.size (.slice pv lq cv) (codeQ zs i q)) := HCE.out.under HBxS.out
                have HBS : Hid (Below w.heap.size w wS) := HBE.out.trans (HBxS.out.mono HBE.out.size)
                have HGS : Hid (GsQ (wS.alloc (.cells #[.int .i64 3, .int .i64 0, .slice none 0 0, .int .i64 5, .int .i64 1, .slice none 0 0, .int .i64 7, .int .i64 0, .slice pS 2 cS] 30)) (PlainA (wS.alloc (.cells #[.int .i64 3, .int .i64 0, .slice none 0 0, .int .i64 5, .int .i64 1, .slice none 0 0, .int .i64 7, .int .i64 0, .slice pS 2 cS] 30))) (.slice (some ⟨wS.heap.size, 0, none⟩) 3 3) [agS (3, 0), agS (5, 1), ⟨7, 0, [agS (1, 1), agS (5, ((i : Int) + 1))]⟩]) := gs_three gS hcS1 hcS2
                have HAS : Hid (Below wS.heap.size wS (wS.alloc (.cells #[.int .i64 3, .int .i64 0, .slice none 0 0, .int .i64 5, .int .i64 1, .slice none 0 0, .int .i64 7, .int .i64 0, .slice pS 2 cS] 30))) := box_below _ _ _
                clear gS bS HBxS HCE HBE HGE HAE hcS1 hcS2
                go_wp2_with fail
                refine (OpQ_any 33 [agS (3, 0), agS (5, 1), ⟨7, 0, [agS (1, 1), agS (5, ((i : Int) + 1))]⟩] _ 3 _ HGS.out (by show 3 ≤ 1000000; decide)).mono ?_
                rintro e wT ⟨pT, cT, rfl, gT, bT⟩
                dsimp only [List.length_cons, List.length_nil, Nat.zero_add, Nat.reduceAdd]
                have HGT : Hid (GsQ wT (PlainA wT) (.slice pT 3 cT) [agS (3, 0), agS (5, 1), ⟨7, 0, [agS (1, 1), agS (5, ((i : Int) + 1))]⟩]) := gT
                have HBxT : Hid (Below wS.heap.size wS wT) := HAS.out.trans (bT.mono HAS.out.size)
                have HCT : Hid (CqSt wT w.heap.size (.slice pv lq cv) (codeQ zs i q)) := HCS.out.under HBxT.out
                have HBT : Hid (Below w.heap.size w wT) := HBS.out.trans (HBxT.out.mono HBS.out.size)
                clear gT bT HBxT HCS HBS HGS HAS
                have HCTL : Hid (CqSt (wT.alloc (.cells #[.int .i64 33, .slice pT 3 cT] 27)) w.heap.size (.slice pv lq cv) (codeQ zs i q)) := HCT.out.under (box_below _ _ _)
                have HBTL : Hid (Below w.heap.size w (wT.alloc (.cells #[.int .i64 33, .slice pT 3 cT] 27))) := HBT.out.alloc HBT.out.size _
                have HXTL : Hid (GsQ (wT.alloc (.cells #[.int .i64 33, .slice pT 3 cT] 27)) (PlainA (wT.alloc (.cells #[.int .i64 33, .slice pT 3 cT] 27))) (.slice pT 3 cT) ([agS (3, 0), agS (5, 1), ⟨7, 0, [agS (1, 1), agS (5, ((i : Int) + 1))]⟩])) := HGT.out.plainB (box_below _ _ _)
                have HLNT : Hid ((codeQ zs i q).length ≤ 100000) := by
                  show _ ≤ _
                  have h1 := (codeL_len zs i).2; have h2 := codeQ_len zs i q; omega
                go_wp2_with (first | (at_builtin; go_loud (refine wpList_append_cq rfl _ _ rfl w.heap.size _ (codeQ zs i q) [inP ((i : Int) + 1)] [⟨33, pT, 3, cT⟩] rfl HCTL.out rfl (one_ins (n := 0) rfl HXTL.out) ⟨wT.heap.size, 0, none⟩ 1 rfl (new_cells wT (cl2 [⟨33, pT, 3, cT⟩]) 27) (by have := HBTL.out.size; exact this) HLNT.out (by show 1 ≤ 100000; decide) ?_; intro vK wK hK kK; have HCK : Hid (CqSt wK w.heap.size vK (codeQ zs i q ++ [inP ((i : Int) + 1)])) := hK; have HBK : Hid (Below w.heap.size w wK) := kK w (Nat.le_refl _) HBTL.out; clear hK kK)) | fail)
                clear HCT HBT HGT HCTL HBTL HXTL HLNT
                have HLB : Hid (Calls Tryd.prog 7 #[vK] wK fun e w' => LabPost wK (codeQ zs i q ++ [inP ((i : Int) + 1)]) e w') := labels_any wK vK (codeQ zs i q ++ [inP ((i : Int) + 1)]) HCK.out.is (codeQ_wt zs i q hi30 [inP ((i : Int) + 1)] (by show 1 ≤ 10; decide) (fun x h => by simp only [List.mem_singleton] at h; subst h; exact szK_P _))
                have hlen0 : ∀ ty W, (Builtin.len_ #[32] ty #[.map none]).run Tryd.prog W = .ok (.int .i64 0) W := fun ty W => Maps.len_nil Tryd.underlying32 ty
                go_wp2_with fail
                refine HLB.out.mono ?_
                rintro e wG hG
                obtain ⟨-, rfl, bG⟩ : labS (codeQ zs i q ++ [inP ((i : Int) + 1)]) = none ∧ e = .returned (.tuple #[.map none, .int .i64 11]) ∧ Below wK.heap.size wK wG := by
                  rcases hG with hG | ⟨P, b, hs, -⟩
                  · exact hG
                  · rw [labS_not zs i q (inP ((i : Int) + 1)) hi30 (by show (33 : Int) ≠ 1; decide) (there_P zs i)] at hs; cases hs
                have HBG : Hid (Below w.heap.size w wG) := HBK.out.trans (bG.mono HBK.out.size)
                clear hG bG HLB HCK HBK
                go_wp2_with fail
                refine (HAW.out _ HBG.out).mono ?_
                rintro e wH ⟨rfl, bH⟩
                have HBH : Hid (Below w.heap.size w wH) := HBG.out.trans (bH.mono HBG.out.size)
                go_wp2_with fail
                go_ret
                exact ⟨rfl, HBH.out⟩
      · have hx1' : (i : Int) < (zs.length : Int) := by omega
        have hx2' : ¬ (i : Int) < 30 := by omega
        clear hi hl hiz
        rcases (show i = 0 ∨ 0 < i by omega) with hi0 | hi0
        · exact absurd hi0 (by omega)
        · have hine : ((i : Int) == 0) = false := by simp; omega
          have hqr : 0 ≤ at' % (i : Int) ∧ at' % (i : Int) < (i : Int) := ⟨Int.emod_nonneg _ (by omega), Int.emod_lt_of_pos _ (by omega)⟩
          have HPQ : Hid (∀ W, Calls Tryd.prog 4 #[.int .i64 at', .int .i64 (i : Int)] W fun e w' => e = .returned (.int .i64 (at' % (i : Int))) ∧ W = w') := fun W => HPA.out W i hi0 hi30
          obtain ⟨q0, hq0⟩ : ∃ q0, q0 = at' % (i : Int) := ⟨_, rfl⟩
          rw [← hq0] at HPQ hqr
          obtain ⟨q, hq⟩ : ∃ q, 1 + q0 = q := ⟨_, rfl⟩
          have hqb : 1 ≤ q ∧ q ≤ (i : Int) := by omega
          have hqi : -9223372036854775808 ≤ q ∧ q ≤ 9223372036854775807 := by omega
          clear hq0
          go_wp2_with fail
          refine (HPQ.out _).mono ?_
          rintro e wq ⟨rfl, rfl⟩
          go_wp2_with fail
          refine (F_any q _).mono ?_
          rintro e wA ⟨rfl, bA⟩
          have HCA : Hid (CqSt wA w.heap.size u7 (codeL zs i)) := HC.out.under bA
          have HBA : Hid (Below w.heap.size w wA) := HB.out.trans (bA.mono HB.out.size)
          clear bA HC HB
          have HGA : Hid (GsQ (wA.alloc (.cells #[.int .i64 5, .int .i64 q, .slice none 0 0] 30)) (PlainA (wA.alloc (.cells #[.int .i64 5, .int .i64 q, .slice none 0 0] 30))) (.slice (some ⟨wA.heap.size, 0, none⟩) 1 1) [agS (5, q)]) := gs_one (by decide) hqi
          have HAA : Hid (Below wA.heap.size wA (wA.alloc (.cells #[.int .i64 5, .int .i64 q, .slice none 0 0] 30))) := box_below _ _ _
          go_wp2_with fail
          refine (OpQ_any 5 [agS (5, q)] _ 1 _ HGA.out (by show 1 ≤ 1000000; decide)).mono ?_
          rintro e wB ⟨pB, cB, rfl, gB, bB⟩
          dsimp only [List.length_cons, List.length_nil, Nat.zero_add]
          have HGB : Hid (GsQ wB (PlainA wB) (.slice pB 1 cB) [agS (5, q)]) := gB
          have HBxB : Hid (Below wA.heap.size wA wB) := HAA.out.trans (bB.mono HAA.out.size)
          have HCB : Hid (CqSt wB w.heap.size u7 (codeL zs i)) := HCA.out.under HBxB.out
          have HBB : Hid (Below w.heap.size w wB) := HBA.out.trans (HBxB.out.mono HBA.out.size)
          clear gB bB HBxB HCA HBA HGA HAA
          go_wp2_with fail
          refine (OpQ_nil 3 _).mono ?_
          rintro e wD ⟨pD, cD, rfl, gD, bD⟩
          dsimp only [List.length_nil]
          have HGB2 : Hid (GsQ wD (PlainA wD) (.slice pB 1 cB) [agS (5, q)]) := HGB.out.plainB bD
          have HGD : Hid (GsQ wD (PlainA wD) (.slice pD 0 cD) []) := gD
          have HCD : Hid (CqSt wD w.heap.size u7 (codeL zs i)) := HCB.out.under bD
          have HBD : Hid (Below w.heap.size w wD) := HBB.out.trans (bD.mono HBB.out.size)
          clear gD bD HCB HBB HGB
          have HCDL : Hid (CqSt (wD.alloc (.cells #[.int .i64 5, .slice pB 1 cB, .int .i64 3, .slice pD 0 cD] 27)) w.heap.size u7 (codeL zs i)) := HCD.out.under (box_below _ _ _)
          have HBDL : Hid (Below w.heap.size w (wD.alloc (.cells #[.int .i64 5, .slice pB 1 cB, .int .i64 3, .slice pD 0 cD] 27))) := HBD.out.alloc HBD.out.size _
          have HX1 : Hid (GsQ (wD.alloc (.cells #[.int .i64 5, .slice pB 1 cB, .int .i64 3, .slice pD 0 cD] 27)) (PlainA (wD.alloc (.cells #[.int .i64 5, .slice pB 1 cB, .int .i64 3, .slice pD 0 cD] 27))) (.slice pB 1 cB) [agS (5, q)]) := HGB2.out.plainB (box_below _ _ _)
          have HX2 : Hid (GsQ (wD.alloc (.cells #[.int .i64 5, .slice pB 1 cB, .int .i64 3, .slice pD 0 cD] 27)) (PlainA (wD.alloc (.cells #[.int .i64 5, .slice pB 1 cB, .int .i64 3, .slice pD 0 cD] 27))) (.slice pD 0 cD) []) := HGD.out.plainB (box_below _ _ _)
          have HLND : Hid ((codeL zs i).length ≤ 100000) := by
            show _ ≤ _
            have := (codeL_len zs i).2; omega
          go_wp2_with (first | (at_builtin; go_loud (refine wpList_append_cq rfl _ _ rfl w.heap.size u7 (codeL zs i) [inF q, inE] [⟨5, pB, 1, cB⟩, ⟨3, pD, 0, cD⟩] rfl HCDL.out rfl (two_ins rfl rfl HX1.out HX2.out) ⟨wD.heap.size, 0, none⟩ 2 rfl (new_cells wD (cl2 [⟨5, pB, 1, cB⟩, ⟨3, pD, 0, cD⟩]) 27) (by have := HBDL.out.size; exact this) HLND.out (by show 2 ≤ 100000; decide) ?_; intro v3 w3 h3 k3; have HC3 : Hid (CqSt w3 w.heap.size v3 (codeQ zs i q)) := h3; have HB3 : Hid (Below w.heap.size w w3) := k3 w (Nat.le_refl _) HBDL.out; obtain ⟨pv, cv, rfl, hcv1, hcv2⟩ := HC3.out.shape; clear h3 k3)) | fail)
          clear HCD HBD HGB2 HGD HCDL HBDL HX1 HX2 HLND
          have HLB : Hid (Calls Tryd.prog 7 #[.slice pv (codeQ zs i q).length cv] w3 fun e w' => LabPost w3 (codeQ zs i q) e w') := labels_any w3 _ (codeQ zs i q) HC3.out.is (by have := codeQ_wt zs i q hi30 [] (by decide) (fun i h => by cases h); rwa [List.append_nil] at this)
          have HSS : Hid (labS (codeQ zs i q) = some (posL zs i)) := labS_code zs i q hi30 hqb
          obtain ⟨lq, hlq⟩ : ∃ lq, lq = (codeQ zs i q).length := ⟨_, rfl⟩
          have hlqb : lq ≤ 1000 := by have h1 := (codeL_len zs i).2; have h2 := codeQ_len zs i q; omega
          have HLQ : Hid (lq = (codeQ zs i q).length) := hlq
          rw [← hlq] at HLB hcv1 ⊢
          clear hlq
          go_wp2_with fail
          refine HLB.out.mono ?_
          rintro e w4 h
          obtain ⟨b, rfl, hp, b4⟩ : ∃ b, e = .returned (.tuple #[.map (some b), .int .i64 0]) ∧ Pm w4 b (posL zs i) ∧ Below w3.heap.size w3 w4 := by
            rcases h with ⟨h, -⟩ | ⟨P, b, h, he, hp, -, hb⟩
            · rw [HSS.out] at h; cases h
            · rw [HSS.out] at h; injection h with h; subst h; exact ⟨b, he, hp, hb⟩
          obtain ⟨D, hown, hhas, hat, hsz⟩ := hp
          have HOWN : Hid (w4.ownsMap Tryd.prog 3 (plainElem Tryd.prog 3) b (posL zs i).length D) := hown
          have HHS : Hid (∀ n, Maps.has D (.int .i64 n) = hasP (posL zs i) n) := hhas
          have HAT : Hid (∀ n k, (n, k) ∈ posL zs i → D.atKey (.int .i64 n) (.lit (.int .i64 0)) = .lit (.int .i64 (k : Int))) := hat
          have HSZ : Hid (Maps.size D = i) := by show _ = _; rw [hsz, posL_len]
          have HB4 : Hid (Below w.heap.size w w4) := HB3.out.trans (b4.mono HB3.out.size)
          have HC4 : Hid (CqSt w4 w.heap.size (.slice pv lq cv) (codeQ zs i q)) := by have h := HC3.out.under b4; rw [← HLQ.out] at h; exact h
          clear hown hhas hat hsz b4 h HLB HC3 HB3
          have hnn : ((i : Int) != (i : Int)) = false := by simp
          have hlen1 : ∀ ty, (Builtin.len_ #[32] ty #[.map (some b)]).run Tryd.prog w4 = .ok (.int .i64 (i : Int)) w4 := fun ty => by have h := World.ownsMap.len HOWN.out Tryd.underlying32 ty; rw [HSZ.out] at h; exact h
          go_wp2_with fail
          go_loopg [15] i (fun gk s15 wr => ∃ j : Nat, j + gk = i + 1 ∧ 1 ≤ j ∧ s15 = .int .i64 (j : Int) ∧ w4 = wr)
          case atStart => exact ⟨1, by omega, Nat.le_refl _, by go_num, rfl⟩
          case round =>
            obtain ⟨j, hj, hj1, rfl, rfl⟩ := hrel
            by_cases hji : j ≤ i
            · obtain ⟨gkj, rfl⟩ : ∃ g, gk = g + 1 := ⟨gk - 1, by omega⟩
              have hji' : (j : Int) ≤ (i : Int) := by omega
              obtain ⟨k, hk⟩ := hasP_mem.1 ((posL_has zs i (j : Int)).2 ⟨by omega, hji'⟩)
              have HJH : Hid (Maps.has D (.int .i64 (j : Int)) = true) := by show _ = _; rw [HHS.out]; exact (posL_has zs i (j : Int)).2 ⟨by omega, hji'⟩
              have HJA : Hid (D.atKey (.int .i64 (j : Int)) (.lit (.int .i64 0)) = .lit (.int .i64 (k : Int))) := HAT.out _ _ hk
              obtain ⟨-, hkl, ho, hn, -⟩ : 0 ≤ k ∧ ∃ h : k - 0 < (codeQ zs i q).length, (codeQ zs i q)[k - 0].op = 1 ∧ numL (codeQ zs i q)[k - 0] = (j : Int) ∧ 1 ≤ (j : Int) := by
                rcases labF_spec _ _ _ _ (lab_code zs i q hi30) _ _ hk with h | h
                · simp at h
                · exact h
              have hk0 : k - 0 = k := Nat.sub_zero k
              simp only [Nat.sub_zero] at ho hn hkl
              obtain ⟨bx, offx, b2, off2, mm, cc2, rfl, x0, x1, x2⟩ := HC4.out.is.label k hkl (j : Int) ho hn (by omega)
              have hkq : (k : Int) < (lq : Int) := by have := HLQ.out; omega
              have hk00 : ¬ (k : Int) < 0 := by omega
              have hkq2 : ¬ (lq : Int) ≤ (k : Int) := by omega
              have hjj : ((j : Int) != (j : Int)) = false := by simp
              have hm0 : (0 : Int) < ((mm + 1 : Nat) : Int) := by omega
              have hkey : keyOf Tryd.prog 3 (.int .i64 (j : Int)) = some (.int .i64 (j : Int)) := keyOf_int_mk Tryd.underlying3 (by simp [Lit.wf, IntKind.min, IntKind.max, IntKind.signed, IntKind.bits]; omega)
              have HJJ : Hid (j + (gkj + 1) = i + 1) := hj
              clear hk ho hn hkl hj hk0
              go_wp2_with (first | (at_lookup; go_loud (refine wpList_lookup_own_ok_int _ rfl _ _ 32 rfl 3 3 .i64 lawI Tryd.underlying32 Tryd.underlying3 (zeroI _) b (posL zs i).length D rfl HOWN.out _ _ rfl hkey ?_; intro cc hcc hwc; obtain rfl : cc = (k : Int) := (by have h := HJA.out; rw [hcc] at h; injection h with h; injection h); rw [HJH.out]; clear hcc hwc)) | fail)
              go_roundg gkj
              case measure => omega
              case rel => exact ⟨j + 1, by have := HJJ.out; omega, by omega, by go_num, rfl⟩
            · have hji' : ¬ (j : Int) ≤ (i : Int) := by omega
              clear hj
              have hh4 : 0 ≤ how % 4 ∧ how % 4 < 4 := by omega
              go_wp2_with fail
              refine (HPH.out _).mono ?_
              rintro e wq ⟨rfl, rfl⟩
              generalize how % 4 = t at *
              have hib : -9223372036854775808 ≤ (i : Int) ∧ (i : Int) ≤ 9223372036854775807 := by omega
              have hib1 : -9223372036854775808 ≤ (i : Int) + 1 ∧ (i : Int) + 1 ≤ 9223372036854775807 := by omega
              rcases (show t = 0 ∨ t = 1 ∨ t = 2 ∨ t = 3 by omega) with rfl | rfl | rfl | rfl
              · go_wp2_with fail
                refine (U_any (i : Int) _).mono ?_
                rintro e wA ⟨rfl, bA⟩
                have HCA : Hid (CqSt wA w.heap.size (.slice pv lq cv) (codeQ zs i q)) := HC4.out.under bA
                have HBA : Hid (Below w.heap.size w wA) := HB4.out.trans (bA.mono HB4.out.size)
                clear bA HC4 HB4
                have HGA : Hid (GsQ (wA.alloc (.cells #[.int .i64 0, .int .i64 (i : Int), .slice none 0 0] 30)) (PlainA (wA.alloc (.cells #[.int .i64 0, .int .i64 (i : Int), .slice none 0 0] 30))) (.slice (some ⟨wA.heap.size, 0, none⟩) 1 1) [agS (0, (i : Int))]) := gs_one (by decide) hib
                have HAA : Hid (Below wA.heap.size wA (wA.alloc (.cells #[.int .i64 0, .int .i64 (i : Int), .slice none 0 0] 30))) := box_below _ _ _
                go_wp2_with fail
                refine (OpQ_any 1 [agS (0, (i : Int))] _ 1 _ HGA.out (by show 1 ≤ 1000000; decide)).mono ?_
                rintro e wB ⟨pB, cB, rfl, gB, bB⟩
                dsimp only [List.length_cons, List.length_nil, Nat.zero_add]
                have HGB : Hid (GsQ wB (PlainA wB) (.slice pB 1 cB) [agS (0, (i : Int))]) := gB
                have HBxB : Hid (Below wA.heap.size wA wB) := HAA.out.trans (bB.mono HAA.out.size)
                have HCB : Hid (CqSt wB w.heap.size (.slice pv lq cv) (codeQ zs i q)) := HCA.out.under HBxB.out
                have HBB : Hid (Below w.heap.size w wB) := HBA.out.trans (HBxB.out.mono HBA.out.size)
                clear gB bB HBxB HCA HBA HGA HAA
                obtain ⟨gz, cz, hve, hbg, hgl, ⟨y0, y1, hy0, hy1⟩, hf0, hf1, hcz⟩ := cq_first (i := inL (i : Int)) (x := ⟨1, pB, 1, cB⟩) HCB.out (by have h2 := codeQ_len zs i q; omega) rfl HGB.out
                injection hve with hv1 hv2 hv3
                subst hv1; subst hv3
                have HCS : Hid (CqSt ((wB.setCell ⟨gz, 0, none⟩ (.int .i64 1)).setCell ⟨gz, 1, none⟩ (.slice pB 1 cB)) w.heap.size (.slice (some ⟨gz, 0, none⟩) lq cv) ((codeQ zs i q).set 0 (inL (i : Int)))) := hcz
                have HBS : Hid (Below w.heap.size w ((wB.setCell ⟨gz, 0, none⟩ (.int .i64 1)).setCell ⟨gz, 1, none⟩ (.slice pB 1 cB))) := (HBB.out.setCell (by exact hbg) _).setCell (by exact hbg) _
                have hlq0 : (0 : Int) < (lq : Int) := by have h1 := HLQ.out; have h2 := codeQ_len zs i q; omega
                clear HCB HBB HGB hcz hv2
                go_wp2_with fail
                generalize (wB.setCell ⟨gz, 0, none⟩ (.int .i64 1)).setCell ⟨gz, 1, none⟩ (.slice pB 1 cB) = wS at *
                refine (U_any (i : Int) _).mono ?_
                rintro e wE ⟨rfl, bE⟩
                have HCE : Hid (CqSt wE w.heap.size (.slice (some ⟨gz, 0, none⟩) lq cv) ((codeQ zs i q).set 0 (inL (i : Int)))) := HCS.out.under bE
                have HBE : Hid (Below w.heap.size w wE) := HBS.out.trans (bE.mono HBS.out.size)
                clear bE HCS HBS
                have HGE : Hid (GsQ (wE.alloc (.cells #[.int .i64 0, .int .i64 (i : Int), .slice none 0 0] 30)) (PlainA (wE.alloc (.cells #[.int .i64 0, .int .i64 (i : Int), .slice none 0 0] 30))) (.slice (some ⟨wE.heap.size, 0, none⟩) 1 1) [agS (0, (i : Int))]) := gs_one (by decide) hib
                have HAE : Hid (Below wE.heap.size wE (wE.alloc (.cells #[.int .i64 0, .int .i64 (i : Int), .slice none 0 0] 30))) := box_below _ _ _
                go_wp2_with fail
                refine (OpQ_any 1 [agS (0, (i : Int))] _ 1 _ HGE.out (by show 1 ≤ 1000000; decide)).mono ?_
                rintro e wF ⟨pF, cF, rfl, gF, bF⟩
                dsimp only [List.length_cons, List.length_nil, Nat.zero_add]
                have HGF : Hid (GsQ wF (PlainA wF) (.slice pF 1 cF) [agS (0, (i : Int))]) := gF
                have HBxF : Hid (Below wE.heap.size wE wF) := HAE.out.trans (bF.mono HAE.out.size)
                have HCF : Hid (CqSt wF w.heap.size (.slice (some ⟨gz, 0, none⟩) lq cv) ((codeQ zs i q).set 0 (inL (i : Int)))) := HCE.out.under HBxF.out
                have HBF : Hid (Below w.heap.size w wF) := HBE.out.trans (HBxF.out.mono HBE.out.size)
                clear gF bF HBxF HCE HBE HGE HAE
                have HCFL : Hid (CqSt (wF.alloc (.cells #[.int .i64 1, .slice pF 1 cF] 27)) w.heap.size (.slice (some ⟨gz, 0, none⟩) lq cv) ((codeQ zs i q).set 0 (inL (i : Int)))) := HCF.out.under (box_below _ _ _)
                have HBFL : Hid (Below w.heap.size w (wF.alloc (.cells #[.int .i64 1, .slice pF 1 cF] 27))) := HBF.out.alloc HBF.out.size _
                have HXFL : Hid (GsQ (wF.alloc (.cells #[.int .i64 1, .slice pF 1 cF] 27)) (PlainA (wF.alloc (.cells #[.int .i64 1, .slice pF 1 cF] 27))) (.slice pF 1 cF) ([agS (0, (i : Int))])) := HGF.out.plainB (box_below _ _ _)
                have HLNF : Hid (((codeQ zs i q).set 0 (inL (i : Int))).length ≤ 100000) := by
                  show _ ≤ _
                  have h1 := (codeL_len zs i).2; have h2 := codeQ_len zs i q; simp; omega
                go_wp2_with (first | (at_builtin; go_loud (refine wpList_append_cq rfl _ _ rfl w.heap.size _ ((codeQ zs i q).set 0 (inL (i : Int))) [inL (i : Int)] [⟨1, pF, 1, cF⟩] rfl HCFL.out rfl (one_ins (n := 0) rfl HXFL.out) ⟨wF.heap.size, 0, none⟩ 1 rfl (new_cells wF (cl2 [⟨1, pF, 1, cF⟩]) 27) (by have := HBFL.out.size; exact this) HLNF.out (by show 1 ≤ 100000; decide) ?_; intro vK wK hK kK; have HCK : Hid (CqSt wK w.heap.size vK ((codeQ zs i q).set 0 (inL (i : Int)) ++ [inL (i : Int)])) := hK; have HBK : Hid (Below w.heap.size w wK) := kK w (Nat.le_refl _) HBFL.out; clear hK kK)) | fail)
                clear HCF HBF HGF HCFL HBFL HXFL HLNF
                have HLB : Hid (Calls Tryd.prog 7 #[vK] wK fun e w' => LabPost wK ((codeQ zs i q).set 0 (inL (i : Int)) ++ [inL (i : Int)]) e w') := labels_any wK vK ((codeQ zs i q).set 0 (inL (i : Int)) ++ [inL (i : Int)]) HCK.out.is (set_wt zs i q hi30 hi0)
                have hlen0 : ∀ ty W, (Builtin.len_ #[32] ty #[.map none]).run Tryd.prog W = .ok (.int .i64 0) W := fun ty W => Maps.len_nil Tryd.underlying32 ty
                go_wp2_with fail
                refine HLB.out.mono ?_
                rintro e wG hG
                obtain ⟨-, rfl, bG⟩ : labS ((codeQ zs i q).set 0 (inL (i : Int)) ++ [inL (i : Int)]) = none ∧ e = .returned (.tuple #[.map none, .int .i64 11]) ∧ Below wK.heap.size wK wG := by
                  rcases hG with hG | ⟨P, b, hs, -⟩
                  · exact hG
                  · rw [lab_first zs i q (i : Int) hi0] at hs; cases hs
                have HBG : Hid (Below w.heap.size w wG) := HBK.out.trans (bG.mono HBK.out.size)
                clear hG bG HLB HCK HBK
                go_wp2_with fail
                refine (HAW.out _ HBG.out).mono ?_
                rintro e wH ⟨rfl, bH⟩
                have HBH : Hid (Below w.heap.size w wH) := HBG.out.trans (bH.mono HBG.out.size)
                go_wp2_with fail
                go_ret
                exact ⟨rfl, HBH.out⟩
              · go_wp2_with fail
                refine (U_any 0 _).mono ?_
                rintro e wA ⟨rfl, bA⟩
                have HCA : Hid (CqSt wA w.heap.size (.slice pv lq cv) (codeQ zs i q)) := HC4.out.under bA
                have HBA : Hid (Below w.heap.size w wA) := HB4.out.trans (bA.mono HB4.out.size)
                clear bA HC4 HB4
                have HGA : Hid (GsQ (wA.alloc (.cells #[.int .i64 0, .int .i64 0, .slice none 0 0] 30)) (PlainA (wA.alloc (.cells #[.int .i64 0, .int .i64 0, .slice none 0 0] 30))) (.slice (some ⟨wA.heap.size, 0, none⟩) 1 1) [agS (0, 0)]) := gs_one (by decide) (by decide)
                have HAA : Hid (Below wA.heap.size wA (wA.alloc (.cells #[.int .i64 0, .int .i64 0, .slice none 0 0] 30))) := box_below _ _ _
                go_wp2_with fail
                refine (OpQ_any 1 [agS (0, 0)] _ 1 _ HGA.out (by show 1 ≤ 1000000; decide)).mono ?_
                rintro e wB ⟨pB, cB, rfl, gB, bB⟩
                dsimp only [List.length_cons, List.length_nil, Nat.zero_add]
                have HGB : Hid (GsQ wB (PlainA wB) (.slice pB 1 cB) [agS (0, 0)]) := gB
                have HBxB : Hid (Below wA.heap.size wA wB) := HAA.out.trans (bB.mono HAA.out.size)
                have HCB : Hid (CqSt wB w.heap.size (.slice pv lq cv) (codeQ zs i q)) := HCA.out.under HBxB.out
                have HBB : Hid (Below w.heap.size w wB) := HBA.out.trans (HBxB.out.mono HBA.out.size)
                clear gB bB HBxB HCA HBA HGA HAA
                have HCBL : Hid (CqSt (wB.alloc (.cells #[.int .i64 1, .slice pB 1 cB] 27)) w.heap.size (.slice pv lq cv) (codeQ zs i q)) := HCB.out.under (box_below _ _ _)
                have HBBL : Hid (Below w.heap.size w (wB.alloc (.cells #[.int .i64 1, .slice pB 1 cB] 27))) := HBB.out.alloc HBB.out.size _
                have HXBL : Hid (GsQ (wB.alloc (.cells #[.int .i64 1, .slice pB 1 cB] 27)) (PlainA (wB.alloc (.cells #[.int .i64 1, .slice pB 1 cB] 27))) (.slice pB 1 cB) ([agS (0, 0)])) := HGB.out.plainB (box_below _ _ _)
                have HLNB : Hid ((codeQ zs i q).length ≤ 100000) := by
                  show _ ≤ _
                  have h1 := (codeL_len zs i).2; have h2 := codeQ_len zs i q; omega
                go_wp2_with (first | (at_builtin; go_loud (refine wpList_append_cq rfl _ _ rfl w.heap.size _ (codeQ zs i q) [inL 0] [⟨1, pB, 1, cB⟩] rfl HCBL.out rfl (one_ins (n := 0) rfl HXBL.out) ⟨wB.heap.size, 0, none⟩ 1 rfl (new_cells wB (cl2 [⟨1, pB, 1, cB⟩]) 27) (by have := HBBL.out.size; exact this) HLNB.out (by show 1 ≤ 100000; decide) ?_; intro vK wK hK kK; have HCK : Hid (CqSt wK w.heap.size vK (codeQ zs i q ++ [inL 0])) := hK; have HBK : Hid (Below w.heap.size w wK) := kK w (Nat.le_refl _) HBBL.out; clear hK kK)) | fail)
                clear HCB HBB HGB HCBL HBBL HXBL HLNB
                have HLB : Hid (Calls Tryd.prog 7 #[vK] wK fun e w' => LabPost wK (codeQ zs i q ++ [inL 0]) e w') := labels_any wK vK (codeQ zs i q ++ [inL 0]) HCK.out.is (codeQ_wt zs i q hi30 [inL 0] (by show 1 ≤ 10; decide) (fun x h => by simp only [List.mem_singleton] at h; subst h; exact szK_one 0 0))
                have hlen0 : ∀ ty W, (Builtin.len_ #[32] ty #[.map none]).run Tryd.prog W = .ok (.int .i64 0) W := fun ty W => Maps.len_nil Tryd.underlying32 ty
                go_wp2_with fail
                refine HLB.out.mono ?_
                rintro e wG hG
                obtain ⟨-, rfl, bG⟩ : labS (codeQ zs i q ++ [inL 0]) = none ∧ e = .returned (.tuple #[.map none, .int .i64 11]) ∧ Below wK.heap.size wK wG := by
                  rcases hG with hG | ⟨P, b, hs, -⟩
                  · exact hG
                  · rw [labS_none (labF_bad (A := codeQ zs i q) (B := [inL 0]) (j := inL 0) (by simp) rfl (by decide) _ _)] at hs; cases hs
                have HBG : Hid (Below w.heap.size w wG) := HBK.out.trans (bG.mono HBK.out.size)
                clear hG bG HLB HCK HBK
                go_wp2_with fail
                refine (HAW.out _ HBG.out).mono ?_
                rintro e wH ⟨rfl, bH⟩
                have HBH : Hid (Below w.heap.size w wH) := HBG.out.trans (bH.mono HBG.out.size)
                go_wp2_with fail
                go_ret
                exact ⟨rfl, HBH.out⟩
              · go_wp2_with fail
                refine (F_any ((i : Int) + 1) _).mono ?_
                rintro e wA ⟨rfl, bA⟩
                have HCA : Hid (CqSt wA w.heap.size (.slice pv lq cv) (codeQ zs i q)) := HC4.out.under bA
                have HBA : Hid (Below w.heap.size w wA) := HB4.out.trans (bA.mono HB4.out.size)
                clear bA HC4 HB4
                have HGA : Hid (GsQ (wA.alloc (.cells #[.int .i64 5, .int .i64 ((i : Int) + 1), .slice none 0 0] 30)) (PlainA (wA.alloc (.cells #[.int .i64 5, .int .i64 ((i : Int) + 1), .slice none 0 0] 30))) (.slice (some ⟨wA.heap.size, 0, none⟩) 1 1) [agS (5, ((i : Int) + 1))]) := gs_one (by decide) hib1
                have HAA : Hid (Below wA.heap.size wA (wA.alloc (.cells #[.int .i64 5, .int .i64 ((i : Int) + 1), .slice none 0 0] 30))) := box_below _ _ _
                go_wp2_with fail
                refine (OpQ_any 5 [agS (5, ((i : Int) + 1))] _ 1 _ HGA.out (by show 1 ≤ 1000000; decide)).mono ?_
                rintro e wB ⟨pB, cB, rfl, gB, bB⟩
                dsimp only [List.length_cons, List.length_nil, Nat.zero_add]
                have HGB : Hid (GsQ wB (PlainA wB) (.slice pB 1 cB) [agS (5, ((i : Int) + 1))]) := gB
                have HBxB : Hid (Below wA.heap.size wA wB) := HAA.out.trans (bB.mono HAA.out.size)
                have HCB : Hid (CqSt wB w.heap.size (.slice pv lq cv) (codeQ zs i q)) := HCA.out.under HBxB.out
                have HBB : Hid (Below w.heap.size w wB) := HBA.out.trans (HBxB.out.mono HBA.out.size)
                clear gB bB HBxB HCA HBA HGA HAA
                have HCBL : Hid (CqSt (wB.alloc (.cells #[.int .i64 5, .slice pB 1 cB] 27)) w.heap.size (.slice pv lq cv) (codeQ zs i q)) := HCB.out.under (box_below _ _ _)
                have HBBL : Hid (Below w.heap.size w (wB.alloc (.cells #[.int .i64 5, .slice pB 1 cB] 27))) := HBB.out.alloc HBB.out.size _
                have HXBL : Hid (GsQ (wB.alloc (.cells #[.int .i64 5, .slice pB 1 cB] 27)) (PlainA (wB.alloc (.cells #[.int .i64 5, .slice pB 1 cB] 27))) (.slice pB 1 cB) ([agS (5, ((i : Int) + 1))])) := HGB.out.plainB (box_below _ _ _)
                have HLNB : Hid ((codeQ zs i q).length ≤ 100000) := by
                  show _ ≤ _
                  have h1 := (codeL_len zs i).2; have h2 := codeQ_len zs i q; omega
                go_wp2_with (first | (at_builtin; go_loud (refine wpList_append_cq rfl _ _ rfl w.heap.size _ (codeQ zs i q) [inF ((i : Int) + 1)] [⟨5, pB, 1, cB⟩] rfl HCBL.out rfl (one_ins (n := 0) rfl HXBL.out) ⟨wB.heap.size, 0, none⟩ 1 rfl (new_cells wB (cl2 [⟨5, pB, 1, cB⟩]) 27) (by have := HBBL.out.size; exact this) HLNB.out (by show 1 ≤ 100000; decide) ?_; intro vK wK hK kK; have HCK : Hid (CqSt wK w.heap.size vK (codeQ zs i q ++ [inF ((i : Int) + 1)])) := hK; have HBK : Hid (Below w.heap.size w wK) := kK w (Nat.le_refl _) HBBL.out; clear hK kK)) | fail)
                clear HCB HBB HGB HCBL HBBL HXBL HLNB
                have HLB : Hid (Calls Tryd.prog 7 #[vK] wK fun e w' => LabPost wK (codeQ zs i q ++ [inF ((i : Int) + 1)]) e w') := labels_any wK vK (codeQ zs i q ++ [inF ((i : Int) + 1)]) HCK.out.is (codeQ_wt zs i q hi30 [inF ((i : Int) + 1)] (by show 1 ≤ 10; decide) (fun x h => by simp only [List.mem_singleton] at h; subst h; exact szK_one 5 _))
                have hlen0 : ∀ ty W, (Builtin.len_ #[32] ty #[.map none]).run Tryd.prog W = .ok (.int .i64 0) W := fun ty W => Maps.len_nil Tryd.underlying32 ty
                go_wp2_with fail
                refine HLB.out.mono ?_
                rintro e wG hG
                obtain ⟨-, rfl, bG⟩ : labS (codeQ zs i q ++ [inF ((i : Int) + 1)]) = none ∧ e = .returned (.tuple #[.map none, .int .i64 11]) ∧ Below wK.heap.size wK wG := by
                  rcases hG with hG | ⟨P, b, hs, -⟩
                  · exact hG
                  · rw [labS_not zs i q (inF ((i : Int) + 1)) hi30 (by show (5 : Int) ≠ 1; decide) (by rw [there_F, bad_no]; rfl)] at hs; cases hs
                have HBG : Hid (Below w.heap.size w wG) := HBK.out.trans (bG.mono HBK.out.size)
                clear hG bG HLB HCK HBK
                go_wp2_with fail
                refine (HAW.out _ HBG.out).mono ?_
                rintro e wH ⟨rfl, bH⟩
                have HBH : Hid (Below w.heap.size w wH) := HBG.out.trans (bH.mono HBG.out.size)
                go_wp2_with fail
                go_ret
                exact ⟨rfl, HBH.out⟩
              · go_wp2_with fail
                refine (X_any 0 _).mono ?_
                rintro e wA ⟨rfl, bA⟩
                have HCA : Hid (CqSt wA w.heap.size (.slice pv lq cv) (codeQ zs i q)) := HC4.out.under bA
                have HBA : Hid (Below w.heap.size w wA) := HB4.out.trans (bA.mono HB4.out.size)
                clear bA HC4 HB4
                go_wp2_with fail
                refine (F_any 1 _).mono ?_
                rintro e wB ⟨rfl, bB⟩
                have HCB : Hid (CqSt wB w.heap.size (.slice pv lq cv) (codeQ zs i q)) := HCA.out.under bB
                have HBB : Hid (Below w.heap.size w wB) := HBA.out.trans (bB.mono HBA.out.size)
                clear bB HCA HBA
                go_wp2_with fail
                refine (I_any 1 _).mono ?_
                rintro e wD ⟨rfl, bD⟩
                have HCD : Hid (CqSt wD w.heap.size (.slice pv lq cv) (codeQ zs i q)) := HCB.out.under bD
                have HBD : Hid (Below w.heap.size w wD) := HBB.out.trans (bD.mono HBB.out.size)
                clear bD HCB HBB
                go_wp2_with fail
                refine (F_any ((i : Int) + 1) _).mono ?_
                rintro e wE ⟨rfl, bE⟩
                have HCE : Hid (CqSt wE w.heap.size (.slice pv lq cv) (codeQ zs i q)) := HCD.out.under bE
                have HBE : Hid (Below w.heap.size w wE) := HBD.out.trans (bE.mono HBD.out.size)
                clear bE HCD HBD
                have HGE : Hid (GsQ (wE.alloc (.cells #[.int .i64 1, .int .i64 1, .slice none 0 0, .int .i64 5, .int .i64 ((i : Int) + 1), .slice none 0 0] 30)) (PlainA (wE.alloc (.cells #[.int .i64 1, .int .i64 1, .slice none 0 0, .int .i64 5, .int .i64 ((i : Int) + 1), .slice none 0 0] 30))) (.slice (some ⟨wE.heap.size, 0, none⟩) 2 2) [agS (1, 1), agS (5, ((i : Int) + 1))]) := gs_two (by decide) (by decide) (by decide) hib1
                have HAE : Hid (Below wE.heap.size wE (wE.alloc (.cells #[.int .i64 1, .int .i64 1, .slice none 0 0, .int .i64 5, .int .i64 ((i : Int) + 1), .slice none 0 0] 30))) := box_below _ _ _
                go_wp2_with fail
                refine (SQ_any [agS (1, 1), agS (5, ((i : Int) + 1))] _ 2 _ HGE.out (by show 2 ≤ 1000000; decide)).mono ?_
                rintro e wS ⟨pS, cS, rfl, hcS1, hcS2, gS, bS⟩
                dsimp only [List.length_cons, List.length_nil, Nat.zero_add, Nat.reduceAdd]
                have HBxS : Hid (Below wE.heap.size wE wS) := HAE.out.trans (bS.mono HAE.out.size)
                have HCS : Hid (CqSt wS w.heap.size (.slice pv lq cv) (codeQ zs i q)) := HCE.out.under HBxS.out
                have HBS : Hid (Below w.heap.size w wS) := HBE.out.trans (HBxS.out.mono HBE.out.size)
                have HGS : Hid (GsQ (wS.alloc (.cells #[.int .i64 3, .int .i64 0, .slice none 0 0, .int .i64 5, .int .i64 1, .slice none 0 0, .int .i64 7, .int .i64 0, .slice pS 2 cS] 30)) (PlainA (wS.alloc (.cells #[.int .i64 3, .int .i64 0, .slice none 0 0, .int .i64 5, .int .i64 1, .slice none 0 0, .int .i64 7, .int .i64 0, .slice pS 2 cS] 30))) (.slice (some ⟨wS.heap.size, 0, none⟩) 3 3) [agS (3, 0), agS (5, 1), ⟨7, 0, [agS (1, 1), agS (5, ((i : Int) + 1))]⟩]) := gs_three gS hcS1 hcS2
                have HAS : Hid (Below wS.heap.size wS (wS.alloc (.cells #[.int .i64 3, .int .i64 0, .slice none 0 0, .int .i64 5, .int .i64 1, .slice none 0 0, .int .i64 7, .int .i64 0, .slice pS 2 cS] 30))) := box_below _ _ _
                clear gS bS HBxS HCE HBE HGE HAE hcS1 hcS2
                go_wp2_with fail
                refine (OpQ_any 33 [agS (3, 0), agS (5, 1), ⟨7, 0, [agS (1, 1), agS (5, ((i : Int) + 1))]⟩] _ 3 _ HGS.out (by show 3 ≤ 1000000; decide)).mono ?_
                rintro e wT ⟨pT, cT, rfl, gT, bT⟩
                dsimp only [List.length_cons, List.length_nil, Nat.zero_add, Nat.reduceAdd]
                have HGT : Hid (GsQ wT (PlainA wT) (.slice pT 3 cT) [agS (3, 0), agS (5, 1), ⟨7, 0, [agS (1, 1), agS (5, ((i : Int) + 1))]⟩]) := gT
                have HBxT : Hid (Below wS.heap.size wS wT) := HAS.out.trans (bT.mono HAS.out.size)
                have HCT : Hid (CqSt wT w.heap.size (.slice pv lq cv) (codeQ zs i q)) := HCS.out.under HBxT.out
                have HBT : Hid (Below w.heap.size w wT) := HBS.out.trans (HBxT.out.mono HBS.out.size)
                clear gT bT HBxT HCS HBS HGS HAS
                have HCTL : Hid (CqSt (wT.alloc (.cells #[.int .i64 33, .slice pT 3 cT] 27)) w.heap.size (.slice pv lq cv) (codeQ zs i q)) := HCT.out.under (box_below _ _ _)
                have HBTL : Hid (Below w.heap.size w (wT.alloc (.cells #[.int .i64 33, .slice pT 3 cT] 27))) := HBT.out.alloc HBT.out.size _
                have HXTL : Hid (GsQ (wT.alloc (.cells #[.int .i64 33, .slice pT 3 cT] 27)) (PlainA (wT.alloc (.cells #[.int .i64 33, .slice pT 3 cT] 27))) (.slice pT 3 cT) ([agS (3, 0), agS (5, 1), ⟨7, 0, [agS (1, 1), agS (5, ((i : Int) + 1))]⟩])) := HGT.out.plainB (box_below _ _ _)
                have HLNT : Hid ((codeQ zs i q).length ≤ 100000) := by
                  show _ ≤ _
                  have h1 := (codeL_len zs i).2; have h2 := codeQ_len zs i q; omega
                go_wp2_with (first | (at_builtin; go_loud (refine wpList_append_cq rfl _ _ rfl w.heap.size _ (codeQ zs i q) [inP ((i : Int) + 1)] [⟨33, pT, 3, cT⟩] rfl HCTL.out rfl (one_ins (n := 0) rfl HXTL.out) ⟨wT.heap.size, 0, none⟩ 1 rfl (new_cells wT (cl2 [⟨33, pT, 3, cT⟩]) 27) (by have := HBTL.out.size; exact this) HLNT.out (by show 1 ≤ 100000; decide) ?_; intro vK wK hK kK; have HCK : Hid (CqSt wK w.heap.size vK (codeQ zs i q ++ [inP ((i : Int) + 1)])) := hK; have HBK : Hid (Below w.heap.size w wK) := kK w (Nat.le_refl _) HBTL.out; clear hK kK)) | fail)
                clear HCT HBT HGT HCTL HBTL HXTL HLNT
                have HLB : Hid (Calls Tryd.prog 7 #[vK] wK fun e w' => LabPost wK (codeQ zs i q ++ [inP ((i : Int) + 1)]) e w') := labels_any wK vK (codeQ zs i q ++ [inP ((i : Int) + 1)]) HCK.out.is (codeQ_wt zs i q hi30 [inP ((i : Int) + 1)] (by show 1 ≤ 10; decide) (fun x h => by simp only [List.mem_singleton] at h; subst h; exact szK_P _))
                have hlen0 : ∀ ty W, (Builtin.len_ #[32] ty #[.map none]).run Tryd.prog W = .ok (.int .i64 0) W := fun ty W => Maps.len_nil Tryd.underlying32 ty
                go_wp2_with fail
                refine HLB.out.mono ?_
                rintro e wG hG
                obtain ⟨-, rfl, bG⟩ : labS (codeQ zs i q ++ [inP ((i : Int) + 1)]) = none ∧ e = .returned (.tuple #[.map none, .int .i64 11]) ∧ Below wK.heap.size wK wG := by
                  rcases hG with hG | ⟨P, b, hs, -⟩
                  · exact hG
                  · rw [labS_not zs i q (inP ((i : Int) + 1)) hi30 (by show (33 : Int) ≠ 1; decide) (there_P zs i)] at hs; cases hs
                have HBG : Hid (Below w.heap.size w wG) := HBK.out.trans (bG.mono HBK.out.size)
                clear hG bG HLB HCK HBK
                go_wp2_with fail
                refine (HAW.out _ HBG.out).mono ?_
                rintro e wH ⟨rfl, bH⟩
                have HBH : Hid (Below w.heap.size w wH) := HBG.out.trans (bH.mono HBG.out.size)
                go_wp2_with fail
                go_ret
                exact ⟨rfl, HBH.out⟩
end Go.Proofs.YtfjibcldghnjcaaDoor
