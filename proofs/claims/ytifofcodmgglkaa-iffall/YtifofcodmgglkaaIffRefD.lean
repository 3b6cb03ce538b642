/-
  relictref05.Make, of few chunks.
-/
import Derived.Test.YtifofcodmgglkaaIffRefC
import Derived.Test.YtifofcodmgglkaaIffStep
import Derived.Test.YtifofcodmgglkaaIffMathD
import Derived.Lib.SlBytesConst
import Derived.ArgAppend
namespace Go.Proofs.Ytifofcodmgglkaa
open Go.RowKit Go.Maps
set_option linter.unusedVariables false
set_option linter.unusedSimpArgs false

theorem step_append_str {P : Program} {ops : Array Oper} {o : Oper} {a : Act} {w : World} {K : Act → World → Prop} {Q : Exit → Act → World → Prop} {E : Prop}
    (hg : o.guard = none) (sl x : Operand) (t u : TypeId) (hop : o.op = Op.call { callee := Callee.builtin Builtin.append, args := #[sl, x], argTypes := #[t, u] })
    (base : Nat) (e : TypeId) (i : TypeInfo) (h1 : P.underlying t = some (.slice e)) (hu : P.underlying u = some .string) (h2 : P.info? e = some i) (h3 : i.zero = some (.int .u8 0)) (h4 : i.size = 1) (h5 : i.bytes = 1)
    (v : Value) (n : Nat) (xs : List Value) (hs : a.eval sl = v) (hown : w.ownsRow base e 1 v n xs) (s : ByteArray) (hx : a.eval x = .string s)
    (b1 : n + s.size ≤ maxLen) (b2 : n + s.size ≤ 140737488355328) (hb : base ≤ w.heap.size)
    (hK : ∀ v' w', w'.ownsRow base e 1 v' (n + s.size) (xs ++ Lib.strCells s) → w.grownBy w' v.ownBlock → K (a.put o.dst v') w') :
    if Region.wanted o (yielded ops a.tmps) = true then Oper.wp P o a w K Q else E := by
  have hw : Region.wanted o (yielded ops a.tmps) = true := by simp [Region.wanted, hg]
  rw [if_pos hw]
  obtain ⟨v', w', hrun, r1, r2, _⟩ := Lib.run_append_own_string (P := P) w base t u o.type e i h1 hu h2 h3 h4 h5 v n xs hown s b1 b2 hb
  unfold Oper.wp
  simp [execOp, hop, resolve, invoke, builtin, hs, hx, hrun, Result.andThen]
  exact hK v' w' r1 r2

theorem body_app : ∀ (a b : List Ck), bodyS (a ++ b) = bodyS a ++ bodyS b
  | [], b => rfl
  | c :: a, b => by simp [bodyS, body_app a b]
theorem body_snoc {l : List Ck} {k : Nat} (h : k < l.length) : bodyS (l.take (k + 1)) = bodyS (l.take k) ++ ckB l[k] := by
  rw [take_more h, body_app]
  simp [bodyS]

/-- What a row of the call's own holds, read at a place. -/
theorem OB.news {w : World} {base g n cap : Nat} {l : List UInt8} (h : OB w base (.slice (some ⟨g, 0, none⟩) n cap) l) : ∀ j u, (bv l)[j]? = some u → w.cell? ((⟨g, 0, none⟩ : Addr).add j) = some u := by
  intro j u hu
  have hj : j < l.length := by
    have := (List.getElem?_eq_some_iff.1 hu).1
    rwa [bv_len] at this
  obtain ⟨b', off', he, -, hc⟩ := h.by.at j hj
  simp at he
  obtain ⟨rfl, rfl⟩ := he
  rw [show (⟨g, 0, none⟩ : Addr).add j = ⟨g, 0 + j, none⟩ by unfold Addr.add; split <;> simp_all, hc j hj]
  simp [bv, hj] at hu
  simp [List.getD, hj, hu]

theorem add_at (g j : Nat) : (⟨g, 0, none⟩ : Addr).add j = ⟨g, j, none⟩ := by unfold Addr.add; split <;> simp_all
theorem mark_cells (w : World) (cs : List Value) (t : TypeId) (fr : Nat × Nat) (j : Nat) (u : Value) (hj : cs[j]? = some u) : (w.alloc (.cells cs.toArray t fr)).cell? ((⟨w.heap.size, 0, none⟩ : Addr).add j) = some u := by
  rw [add_at, World.cell?_alloc_mark]
  simpa using hj
theorem far_cells {w w' : World} {row : Option Nat} {g : Nat} {l : List Value} (hg : w.grownBy w' row) (hlt : g < w.heap.size) (hne : row ≠ some g) (h : ∀ j u, l[j]? = some u → w.cell? ((⟨g, 0, none⟩ : Addr).add j) = some u) : ∀ b, some (⟨g, 0, none⟩ : Addr) = some b → ∀ j u, l[j]? = some u → w'.cell? (b.add j) = some u := by
  intro b hb j u hj
  injection hb with hb
  subst hb
  have := h j u hj
  rw [add_at] at this ⊢
  rw [far hg ⟨g, j, none⟩ hlt hne.symm]
  exact this

def RmPost (w : World) (l : List Ck) (e : Ending) (w' : World) : Prop :=
  ∃ v, e = .returned (.tuple #[v, .int .i64 (makS l).2]) ∧ By w' v (makS l).1 ∧ Below w.heap.size w w'
def RmRel (w : World) (l : List Ck) (z : Int) (k : Nat) (s4 : Value) (wr : World) : Prop :=
  OB wr w.heap.size s4 (bodyS (l.take k)) ∧ refS (l.take k) (l.drop k) = z ∧ (bodyS (l.take k)).length ≤ k * 3011 ∧ Below w.heap.size w wr

set_option maxHeartbeats 8000000 in
theorem rmake_any (v : Value) (l : List Ck) (w : World) (h : Ch w v l) (hl : l.length ≤ 12) (hs3 : ∀ c ∈ l, (c.2.size : Int) ≤ 3000) : Calls Try.prog 14 #[v] w fun e w' => RmPost w l e w' := by
  obtain ⟨a, cap, rfl, hc, hm, hn⟩ := h.shape
  obtain ⟨i0, hi, hz0, hz1, hz2⟩ := info_parts Try.infoU8
  obtain ⟨z, hz⟩ : ∃ z, refS [] l = z := ⟨_, rfl⟩
  have HS : Hid (RmRel w l z 0 (.slice none 0 0) w) := ⟨OB.nil _ _, hz, by simp [bodyS], Below.refl _ _⟩
  have HZ : Hid (refS [] l = z) := hz
  clear hz
  go_enter Try.func14, Try.ntmps14
  go_wp2_with fail
  go_loopg [4, 5] l.length (fun gk s4 s5 wr => ∃ k : Nat, k + gk = l.length ∧ s5 = .int .i64 (k : Int) ∧ Hid (RmRel w l z k s4 wr))
  case atStart => exact ⟨0, by omega, rfl, HS⟩
  case round =>
    obtain ⟨k, hk, rfl, HR⟩ := hrel
    clear HS
    obtain ⟨o, href, hbl, hbel⟩ := HR.out
    cases gk with
    | zero =>
      obtain rfl : k = l.length := by omega
      rw [List.take_length, List.drop_length] at href
      rw [List.take_length] at o hbl
      have hz0' : z = 0 := href.symm
      have hr0 : refS [] l = 0 := HZ.out.trans hz0'
      have hbs := body_len l (ref_all l [] hr0)
      have hsf := siz_few l hs3
      have HM : Hid (makS l = (markF ++ four (bodyS l).length.succ.succ.succ.succ ++ markB ++ bodyS l, 0)) := by
        unfold Hid makS
        rw [if_neg (by simpa using hr0), if_neg (by omega), hbs, show (sizS l).succ.succ.succ.succ = 4 + sizS l by omega]
      have hXl : (bodyS l).length ≤ 36132 := by omega
      obtain ⟨X, hX⟩ : ∃ X, X = bodyS l := ⟨_, rfl⟩
      rw [← hX] at HM o hXl
      obtain ⟨N, hN⟩ : ∃ N, N = X.length := ⟨_, rfl⟩
      have HN : Hid (N = X.length) := hN
      obtain ⟨p4, c4, rfl, hc4, hm4, -⟩ := o.by.shape
      rw [← hN] at HM hXl o hc4 ⊢
      have HO : Hid (OB wr w.heap.size (.slice p4 N c4) X) := o
      have HB : Hid _ := hbel
      obtain ⟨M, hM⟩ : ∃ M, M = N + 4 := ⟨_, rfl⟩
      have hN4 : (N : Int) + 4 = (M : Int) := by omega
      have HM4 : Hid (M = N.succ.succ.succ.succ) := hM
      have hMi : (M : Int) ≤ 4294967295 := by omega
      have kc := fun (w : World) (C : Array Value) (n c : Nat) => Lib.run_convert_bytes_const (P := Try.prog) w 22 5 C n c Try.underlying22 Try.underlying5
      clear HR href hbl hbel hz0' hr0 hbs hsf hX hN o hM
      go_wp2_with fail
      have bA := (Below.refl wr.heap.size wr).alloc (Nat.le_refl _) (.cells #[.int .u8 70, .int .u8 79, .int .u8 82, .int .u8 49] 5 (4, 5))
      have oA := HO.out.under bA
      have hBA : Below w.heap.size w (wr.alloc (.cells #[.int .u8 70, .int .u8 79, .int .u8 82, .int .u8 49] 5 (4, 5))) := HB.out.alloc HB.out.size _
      have cA : ∀ j u, (bv markF)[j]? = some u → (wr.alloc (.cells #[.int .u8 70, .int .u8 79, .int .u8 82, .int .u8 49] 5 (4, 5))).cell? ((⟨wr.heap.size, 0, none⟩ : Addr).add j) = some u := mark_cells wr (bv markF) 5 (4, 5)
      have hltA : wr.heap.size < (wr.alloc (.cells #[.int .u8 70, .int .u8 79, .int .u8 82, .int .u8 49] 5 (4, 5))).heap.size := by simp
      have hszA : (wr.alloc (.cells #[.int .u8 70, .int .u8 79, .int .u8 82, .int .u8 49] 5 (4, 5))).heap.size = wr.heap.size + 1 := by simp
      refine (rfour_any M _ hMi).mono ?_
      rintro e w2 ⟨vF, rfl, oF, gF, hvF⟩
      rw [hszA] at hvF oF
      subst hvF
      have o2 := oA.grown gF (.inr rfl)
      have b2 : Below w.heap.size w w2 := hBA.grown gF hBA.size (fun j hj => by cases hj)
      have c2 := far_cells gF hltA (by simp) cA
      have nF := oF.news
      have hs2 : wr.heap.size ≤ w2.heap.size := by have := gF.size; omega
      clear bA oA hBA cA hltA hszA gF oF
      cases p4 with
      | none =>
        obtain rfl : N = 0 := by
          obtain ⟨a', c', he, h1, -, h3, -⟩ := HO.out.by
          simp at he
          have := h3 he.1.symm
          omega
        obtain rfl : X = [] := List.eq_nil_of_length_eq_zero HN.out.symm
        have h40 : c4 = 0 := by
          obtain ⟨a', c', he, h1, -, h3, -⟩ := HO.out.by
          simp at he
          have := h3 he.1.symm
          omega
        subst h40
        go_wp2_with (first
          | (at_builtin; refine wpList_append_grows _ rfl _ _ 22 rfl 5 i0 (.int .u8 0) 1 1 Try.underlying22 hi hz0 hz1 hz2 rfl (by decide) (some ⟨wr.heap.size, 0, none⟩) 4 4 (bv markF) rfl (by simp) rfl c2 ⟨wr.heap.size + 1, 0, none⟩ 4 4 (bv (four M)) rfl rfl nF (bv_one _) (by omega) (by decide) (by decide) ?_; intro v3 w3 hown3 hg3)
          | (at_builtin; refine Lib.wpList_append_own_string _ rfl _ _ 22 9 rfl w2.heap.size 5 i0 Try.underlying22 Try.underlying9 hi hz0 hz1 hz2 _ _ _ rfl hown3 _ rfl (by decide) (by decide) hg3.size ?_; intro v4 w4 hown4 hg4 hnil4; replace hg4 : w3.grownBy w4 v3.ownBlock := hg4)
          | (at_builtin; refine wpList_append_own_none rfl _ _ 22 rfl w2.heap.size 5 i0 1 Try.underlying22 hi _ _ _ rfl hown4 rfl ?_)
          | fail)
        have o4 : OB w4 w2.heap.size v4 (markF ++ four M ++ markB) := OB.more (l := markF ++ four M) (m := markB) (by rw [bv_app]; exact hown4) rfl
        have b3 : Below w.heap.size w w3 := b2.grown hg3 b2.size (fun j hj => by cases hj)
        have b4 : Below w.heap.size w w4 := b3.grown hg4 b3.size (fun j hj => by have := (World.ownsRow.lt hown3 j hj).1; have := b2.size; omega)
        go_ret2
        refine ⟨v4, by rw [HM.out]; rfl, ?_, b4⟩
        rw [HM.out, ← HM4.out]
        simpa using o4.by
      | some x =>
        obtain ⟨g4, rfl⟩ : ∃ g, x = ⟨g, 0, none⟩ := by
          rcases HO.out.2 with ⟨he, _⟩ | ⟨g', cap', cur, he, -⟩
          · simp at he
          · simp at he
            exact ⟨g', he.1⟩
        have hlt4 : g4 < wr.heap.size := (World.ownsRow.lt HO.out g4 rfl).2
        have HO2 : Hid (OB w2 w.heap.size (.slice (some ⟨g4, 0, none⟩) N c4) X) := o2
        clear o2
        go_wp2_with (first
          | (at_builtin; refine wpList_append_grows _ rfl _ _ 22 rfl 5 i0 (.int .u8 0) 1 1 Try.underlying22 hi hz0 hz1 hz2 rfl (by decide) (some ⟨wr.heap.size, 0, none⟩) 4 4 (bv markF) rfl (by simp) rfl c2 ⟨wr.heap.size + 1, 0, none⟩ 4 4 (bv (four M)) rfl rfl nF (bv_one _) (by omega) (by decide) (by decide) ?_; intro v3 w3 hown3 hg3; have HO3 := HO2.out.grown hg3 (.inr rfl))
          | (at_builtin; refine Lib.wpList_append_own_string _ rfl _ _ 22 9 rfl w2.heap.size 5 i0 Try.underlying22 Try.underlying9 hi hz0 hz1 hz2 _ _ _ rfl hown3 _ rfl (by decide) (by decide) hg3.size ?_; intro v4 w4 hown4 hg4 hnil4; replace hg4 : w3.grownBy w4 v3.ownBlock := hg4; have n4 := (HO3.grown hg4 (.inl (fun e => by have := (World.ownsRow.lt hown3 g4 e.symm).1; omega))).news)
          | (at_builtin; refine wpList_append_own _ rfl _ _ 22 rfl w2.heap.size 5 i0 (.int .u8 0) 1 1 Try.underlying22 hi hz0 hz1 hz2 rfl (by decide) _ _ _ rfl hown4 ⟨g4, 0, none⟩ N c4 (bv X) rfl (by rw [bv_len, ← HN.out, Nat.mul_one]) n4 (bv_one _) (by show 8 + 4 + N ≤ maxLen; unfold maxLen; omega) (by show (8 + 4 + N) * 1 ≤ 140737488355328; omega) (Nat.le_trans hg3.size hg4.size) ?_; intro v5 w5 hown5 hg5 hnil5; replace hg5 : w4.grownBy w5 v4.ownBlock := hg5)
          | fail)
        have o5 : OB w5 w2.heap.size v5 (markF ++ four M ++ markB ++ X) := OB.more (l := markF ++ four M ++ markB) (m := X) (by rw [bv_app, bv_app]; exact hown5) (by rw [← HN.out]; rfl)
        have b3 : Below w.heap.size w w3 := b2.grown hg3 b2.size (fun j hj => by cases hj)
        have b4 : Below w.heap.size w w4 := b3.grown hg4 b3.size (fun j hj => by have := (World.ownsRow.lt hown3 j hj).1; have := b2.size; omega)
        have b5 : Below w.heap.size w w5 := b4.grown hg5 b4.size (fun j hj => by have := (World.ownsRow.lt hown4 j hj).1; have := b2.size; omega)
        go_ret2
        refine ⟨v5, by rw [HM.out]; rfl, ?_, b5⟩
        rw [HM.out, ← HM4.out]
        exact o5.by
    | succ g =>
      have hkl : k < l.length := by omega
      obtain ⟨b, off, rfl, hltw, p1, p2, hs1, hs2⟩ := h.at k hkl
      have hsk := hs3 _ (List.getElem_mem hkl)
      have hst := ref_step (seen := l.take k) hkl
      have hbs := body_snoc hkl
      have htk := take_more hkl
      rw [href] at hst
      obtain ⟨c, hcd⟩ : ∃ c, c = l[k] := ⟨_, rfl⟩
      rw [← hcd] at p1 p2 hs1 hs2 hst hsk hbs htk
      clear hcd href
      have hki : (k : Int) < (l.length : Int) := by omega
      have q1 := (hbel.cell (p := ⟨b, off + k * 2, none⟩) hltw).trans p1
      have q2 := (hbel.cell (p := ⟨b, off + k * 2 + 1, none⟩) hltw).trans p2
      have HB : Hid _ := hbel
      have HO : Hid (OB wr w.heap.size u4 (bodyS (l.take k))) := o
      have HBS : Hid _ := hbs
      have HTK : Hid _ := htk
      have hwr := hbel.size
      clear HR hbel o hbs htk
      cases ho : okN c.1.data.toList
      · rw [if_pos ho] at hst
        have HM : Hid (makS l = ([], 1)) := by
          unfold Hid makS
          rw [HZ.out, hst]
          rfl
        have HOk : Hid _ := ho
        clear ho hst
        go_wp2_with fail
        refine (rname_any _ _ hs1).mono ?_
        rintro e w1 ⟨rfl, rfl⟩
        rw [HOk.out]
        go_wp2_with fail
        go_ret2
        exact ⟨.slice none 0 0, by rw [HM.out]; rfl, by rw [HM.out]; exact By.nil _, HB.out⟩
      · rw [if_neg (by rw [ho]; simp)] at hst
        have HOk : Hid _ := ho
        clear ho
        have hch2 := (h.under HB.out).take k (by omega)
        have hkc : (k : Int) ≤ (cap : Int) := by omega
        cases hh : hasN (l.take k) c.1
        · rw [hh, if_neg (by simp)] at hst
          have HF : Hid (∀ m, Calls Try.prog 16 #[.slice (some ⟨b, off, none⟩) k cap, .string c.1] (wr.drewN m) fun e w' => e = .returned (.tuple #[.string (finS (l.take k) c.1).1, .bool false]) ∧ w' = wr.drewN m) := fun m => by
            have := rfind_any _ (l.take k) c.1 (wr.drewN m) (hch2.under (below_drewN (Below.refl _ _) m))
            rw [fin_has, hh] at this
            exact this
          have HST : Hid _ := hst
          clear hst hh hch2
          go_wp2_with fail
          refine (rname_any _ _ hs1).mono ?_
          rintro e w1 ⟨rfl, rfl⟩
          rw [HOk.out]
          go_wp2_with fail
          go_quiet ((go_at_call 16; exact Calls.quiet_of_same (HF.out _)))
          have HO2 : Hid (OB (w1.drewN nq) w.heap.size u4 (bodyS (l.take k))) := HO.out.under (below_drewN (Below.refl _ _) nq)
          have HB2 : Hid (Below w.heap.size w (w1.drewN nq)) := below_drewN HB.out nq
          clear HO HB HF q1 q2 hwr
          generalize w1.drewN nq = w2 at *
          have hb2 := HB2.out
          have HO3 : Hid (OB w2.drew w.heap.size u4 (bodyS (l.take k))) := HO2.out.under (Below.refl _ _).drew
          have HB3 : Hid (Below w.heap.size w w2.drew) := HB2.out.drew
          have q1 := (HB2.out.cell (p := ⟨b, off + k * 2, none⟩) hltw).trans p1
          have q2 := (HB2.out.cell (p := ⟨b, off + k * 2 + 1, none⟩) hltw).trans p2
          have r1 := (HB3.out.cell (p := ⟨b, off + k * 2, none⟩) hltw).trans p1
          have r2 := (HB3.out.cell (p := ⟨b, off + k * 2 + 1, none⟩) hltw).trans p2
          have h4 := okN_size HOk.out
          have hnl : c.1.data.toList.length = c.1.size := by simp
          have hsz3 := HB3.out.size
          have hX : (bodyS (l.take k)).length ≤ 36132 := by omega
          obtain ⟨X, hXd⟩ : ∃ X, X = bodyS (l.take k) := ⟨_, rfl⟩
          rw [← hXd] at HO3 hX hbl HBS
          have HNL : Hid _ := hnl
          have HXd : Hid _ := hXd
          clear hXd hnl HO2 hb2
          go_wp2_with fail
          go_region_law (first
            | (refine step_append_own rfl (.tmp 41) (.tmp 48) 22 rfl w.heap.size 5 i0 (.int .u8 0) 1 1 Try.underlying22 hi hz0 hz1 hz2 rfl (by decide) _ _ _ (by simp [Act.eval, Act.put]) o6 _ 4 4 (bv (four c.2.size)) (by simp [Act.eval, Act.put]) rfl hn6 (bv_one _) (by rw [hl6]; unfold maxLen; omega) (by rw [hl6]; omega) b6.size ?_; intro v7 w7 hown7 hg7; have o7 : OB w7 w.heap.size v7 (X ++ c.1.data.toList ++ four c.2.size) := OB.more hown7 rfl; have b7 := OB.belowG o6 b6 hg7 b6.size (Nat.le_refl _); have d7 := (b7.cell (p := ⟨b, off + k * 2 + 1, none⟩) hltw).trans p2; clear hown7 hg7 o6 hn6 b6)
            | (refine step_append_str rfl (.tmp 35) (.tmp 40) 22 9 rfl w.heap.size 5 i0 Try.underlying22 Try.underlying9 hi hz0 hz1 hz2 u4 _ _ (by simp [Act.eval, Act.put]) HO3.out c.1 (by simp [Act.eval, Act.put]) (by unfold maxLen; omega) (by omega) hsz3 ?_; intro v5 w5 hown5 hg5; have b5 := OB.belowG HO3.out HB3.out hg5 HB3.out.size (Nat.le_refl _); have o5 : OB w5 w.heap.size v5 (X ++ c.1.data.toList) := OB.more hown5 (by rw [HNL.out]); have d1 := (b5.cell (p := ⟨b, off + k * 2, none⟩) hltw).trans p1; have d2 := (b5.cell (p := ⟨b, off + k * 2 + 1, none⟩) hltw).trans p2; clear hown5 hg5 HO3)
            | (refine step_append_str rfl (.tmp 35) (.tmp 40) 22 9 rfl w.heap.size 5 i0 Try.underlying22 Try.underlying9 hi hz0 hz1 hz2 u4 _ _ (by simp [Act.eval, Act.put]) o5 c.1 (by simp [Act.eval, Act.put]) (by unfold maxLen; omega) (by omega) b5.size ?_; intro v6 w6 hown6 hg6; have b6 := OB.belowG o5 b5 hg6 b5.size (Nat.le_refl _); have o6 : OB w6 w.heap.size v6 (X ++ c.1.data.toList) := OB.more hown6 (by rw [HNL.out]); have hl6 : (X ++ c.1.data.toList).length = X.length + 4 := (by rw [List.length_append, HNL.out, h4]); have hn6 := (oF.grown hg6 (.inl hneF)).news; clear hown6 hg6 o5 b5 oF)
            | (have := o5; go_simp; go_at_call 28; refine (rfour_any c.2.size _ (by omega)).mono ?_; rintro e w6 ⟨vF, rfl, oF, gF, rfl⟩; have o6 := o5.grown gF (.inr rfl); have b6 : Below w.heap.size w w6 := b5.grown gF b5.size (fun j hj => by cases hj); have hl6 : (X ++ c.1.data.toList).length = X.length + 4 := (by rw [List.length_append, HNL.out, h4]); have hn6 := oF.news; clear oF gF o5 b5)
            | (have := HO3.out; go_simp; go_at_call 28; refine (rfour_any c.2.size _ (by omega)).mono ?_; rintro e w5 ⟨vF, rfl, oF, gF, rfl⟩; have o5 := HO3.out.grown gF (.inr rfl); have b5 : Below w.heap.size w w5 := HB3.out.grown gF HB3.out.size (fun j hj => by cases hj); have hneF : (Value.slice (some ⟨w2.drew.heap.size, 0, none⟩) 4 4).ownBlock ≠ u4.ownBlock := (fun e => by have := (World.ownsRow.lt HO3.out _ e.symm).2; omega); have d1 := (b5.cell (p := ⟨b, off + k * 2, none⟩) hltw).trans p1; have d2 := (b5.cell (p := ⟨b, off + k * 2 + 1, none⟩) hltw).trans p2; clear gF HO3))
          all_goals
            have hl7 : (X ++ c.1.data.toList ++ four c.2.size).length = X.length + 8 := by simp only [List.length_append, HNL.out, four_len]; omega
            have HL7 : Hid _ := hl7
            have HB7 : Hid _ := b7
            have hsz7 := b7.size
            have hdl : c.2.data.toList.length = c.2.size := by simp
            have HDL : Hid _ := hdl
            clear hl7 b7 hdl d1 d2 q1 q2 r1 r2 HB3 HB2 hsz3
            go_wp2_with (first
              | (at_builtin; refine Lib.wpList_append_own_string _ rfl _ _ 22 9 rfl w.heap.size 5 i0 Try.underlying22 Try.underlying9 hi hz0 hz1 hz2 _ _ _ rfl o7 _ rfl (by rw [HL7.out]; unfold maxLen; omega) (by rw [HL7.out]; omega) hsz7 ?_; intro v8 w8 hown8 hg8 hnil8; replace hg8 : w7.grownBy w8 v7.ownBlock := hg8; have b8 := OB.belowG o7 HB7.out hg8 HB7.out.size (Nat.le_refl _); have d8 := (b8.cell (p := ⟨b, off + k * 2 + 1, none⟩) hltw).trans p2)
              | fail)
            have o8 : OB w8 w.heap.size v8 (X ++ c.1.data.toList ++ four c.2.size ++ c.2.data.toList) := OB.more hown8 (by rw [HDL.out])
            have hl8 : (X ++ c.1.data.toList ++ four c.2.size ++ c.2.data.toList).length = X.length + 8 + c.2.size := by rw [List.length_append, HL7.out, HDL.out]
            obtain ⟨Y, hY⟩ : ∃ Y, Y = X ++ c.1.data.toList ++ four c.2.size ++ c.2.data.toList := ⟨_, rfl⟩
            rw [← hY] at o8 hl8
            have hmis := mis_lt c.2.size
            obtain ⟨q, hq⟩ : ∃ q, q = mis c.2.size := ⟨_, rfl⟩
            rw [← hq] at hmis
            have hmod : ∀ j : Nat, j ≤ q → ((((c.2.size + j : Nat) : Int) % 4 = 0) ↔ j = q) := by
              intro j hj
              rw [hq] at hj ⊢
              unfold mis at hj ⊢
              omega
            have HMOD : Hid _ := hmod
            have HE : Hid (bodyS (l.take (k + 1)) = Y ++ z8 q) := by
              unfold Hid
              rw [HBS.out, hY, hq]
              unfold ckB z8
              simp only [List.append_assoc]
            have HS2 : Hid (OB w8 w.heap.size v8 (Y ++ z8 0) ∧ Below w.heap.size w w8) := ⟨by simpa [z8] using o8, b8⟩
            clear hown8 hg8 hnil8 o8 b8 o7 HB7 hY hq hmod d8
            go_loopg [4, 8] q (fun gq t4 t8 wy => ∃ j : Nat, j + gq = q ∧ t8 = .int .i64 ((c.2.size + j : Nat) : Int) ∧ Hid (OB wy w.heap.size t4 (Y ++ z8 j) ∧ Below w.heap.size w wy))
            case atStart => exact ⟨0, by omega, rfl, HS2⟩
            case round =>
              obtain ⟨j, hj, rfl, HJ⟩ := hrel
              clear HS2
              obtain ⟨oj, bj⟩ := HJ.out
              have hlj : (Y ++ z8 j).length = Y.length + j := by simp [z8_len]
              have hmm := HMOD.out j (by omega)
              have hjs : ((c.2.size + j : Nat) : Int) ≤ 3010 := by omega
              have hszj := bj.size
              have HBj : Hid _ := bj
              have HLj : Hid _ := hlj
              obtain ⟨m, hmd⟩ : ∃ m : Int, m = ((c.2.size + j : Nat) : Int) := ⟨_, rfl⟩
              have hm0 : 0 ≤ m := by omega
              rw [← hmd] at hmm hjs ⊢
              have HMd : Hid _ := hmd
              clear HJ bj hlj hmd
              cases gk with
              | zero =>
                obtain rfl : j = q := by omega
                have hm4 : m % 4 = 0 := hmm.2 rfl
                clear hmm
                have HG : Hid (RmRel w l z (k + 1) u4 wr) := by
                  refine ⟨by rw [HE.out]; exact oj, ?_, ?_, HBj.out⟩
                  · rw [HTK.out]
                    exact HST.out.symm
                  · rw [HE.out, HLj.out]
                    omega
                go_wp2_with fail
                go_roundg g
                case measure => omega
                case rel => exact ⟨k + 1, by omega, by go_num, HG⟩
              | succ gk =>
                have hm4 : ¬ m % 4 = 0 := fun e => by have := hmm.1 e; omega
                clear hmm
                go_wp2_with (first
                  | (at_builtin; refine wpList_append_own _ rfl _ _ 22 rfl w.heap.size 5 i0 (.int .u8 0) 1 1 Try.underlying22 hi hz0 hz1 hz2 rfl (by decide) _ _ _ rfl (World.ownsRow.alloc oj _) ⟨wr.heap.size, 0, none⟩ 1 1 (bv [0]) rfl rfl (new_cells wr (bv [0]) _) (bv_one _) (by rw [HLj.out]; unfold maxLen; omega) (by rw [HLj.out]; omega) (by simp; omega) ?_; intro v9 w9 hown9 hg9 hnil9; replace hg9 : (wr.alloc (.cells (bv [0]).toArray 5)).grownBy w9 u4.ownBlock := hg9)
                  | fail)
                have o9 : OB w9 w.heap.size v9 (Y ++ z8 j ++ [0]) := OB.more hown9 (by simp)
                have b9 : Below w.heap.size w w9 := (HBj.out.alloc HBj.out.size _).grown hg9 (by simp; omega) (fun j hj => (World.ownsRow.lt oj j hj).1)
                have HN : Hid (OB w9 w.heap.size v9 (Y ++ z8 (j + 1)) ∧ Below w.heap.size w w9) := by
                  refine ⟨?_, b9⟩
                  have e : Y ++ z8 (j + 1) = Y ++ z8 j ++ [0] := by
                    unfold z8
                    rw [List.replicate_succ', List.append_assoc]
                  rw [e]
                  exact o9
                go_roundg gk
                case measure => omega
                case rel => exact ⟨j + 1, by omega, congrArg (Value.int .i64) (by have := HMd.out; omega), HN⟩
        · rw [hh, if_pos rfl] at hst
          have HM : Hid (makS l = ([], 6)) := by
            unfold Hid makS
            rw [HZ.out, hst]
            rfl
          have HF : Hid (∀ m, Calls Try.prog 16 #[.slice (some ⟨b, off, none⟩) k cap, .string c.1] (wr.drewN m) fun e w' => e = .returned (.tuple #[.string (finS (l.take k) c.1).1, .bool true]) ∧ w' = wr.drewN m) := fun m => by
            have := rfind_any _ (l.take k) c.1 (wr.drewN m) (hch2.under (below_drewN (Below.refl _ _) m))
            rw [fin_has, hh] at this
            exact this
          clear hst hh hch2
          go_wp2_with fail
          refine (rname_any _ _ hs1).mono ?_
          rintro e w1 ⟨rfl, rfl⟩
          rw [HOk.out]
          go_wp2_with fail
          go_quiet ((go_at_call 16; exact Calls.quiet_of_same (HF.out _)))
          go_wp2_with fail
          go_ret2
          exact ⟨.slice none 0 0, by rw [HM.out]; rfl, by rw [HM.out]; exact By.nil _, below_drewN HB.out _⟩
end Go.Proofs.Ytifofcodmgglkaa
