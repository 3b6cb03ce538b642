/-
  iff: first.
-/
import Derived.Test.YtifofcodmgglkaaIffMk
namespace Go.Proofs.Ytifofcodmgglkaa
open Go.RowKit Go.Maps
set_option linter.unusedVariables false
set_option linter.unusedSimpArgs false

theorem BxC.load {w : World} {g : Nat} {c : Ck} (h : BxC w g c) : (loadVar 39 ⟨g, 0, none⟩).run Try.prog w = .ok (.agg #[.string c.1, .string c.2]) w := by
  obtain ⟨c0, c1⟩ := h.cells
  simp [loadVar, go_sem, c0, c1]
theorem results_ck3 {fn : Func} {q u u2 : Tmp} (h : fn.results = #[.cell q 39, .tmp u, .tmp u2]) (tmps : Array Value) (w : World) (g : Nat) (c : Ck) (hq : tmps.getD q undef = .pointer (some ⟨g, 0, none⟩)) (hb : BxC w g c) :
    (results fn tmps).run Try.prog w = .ok (.tuple #[.agg #[.string c.1, .string c.2], tmps.getD u undef, tmps.getD u2 undef]) w := by
  have hl := hb.load
  simp only [Array.getD_eq_getD_getElem?] at hq
  simp only [results, h]
  simp [hq, asAddr, hl]

theorem BxC.facts {w : World} {g : Nat} {c : Ck} (h : BxC w g c) : w.cell? ⟨g, 0, none⟩ = some (.string c.1) ∧ w.cell? ⟨g, 1, none⟩ = some (.string c.2) ∧ w.frozen? ⟨g, 0, none⟩ = false ∧ w.frozen? ⟨g, 1, none⟩ = false := by
  obtain ⟨c0, c1⟩ := h.cells
  unfold BxC at h
  exact ⟨c0, c1, by simp [World.frozen?, h], by simp [World.frozen?, h]⟩
theorem BxC.set {w : World} {g : Nat} {c : Ck} (h : BxC w g c) (a b : ByteArray) : BxC ((w.setCell ⟨g, 0, none⟩ (.string a)).setCell ⟨g, 1, none⟩ (.string b)) g (a, b) := by
  unfold BxC at h ⊢
  simp [World.setCell, Array.getElem?_modify, h]

/-- 'b[q:]', as the model has it. -/
theorem By.dropI {w : World} {b off n cap : Nat} {l : List UInt8} (h : By w (.slice (some ⟨b, off, none⟩) n cap) l) (q ob : Nat) (hq : q ≤ l.length) (hob : ob = if cap = q then off else off + q) : By w (.slice (some ⟨b, ob, none⟩) (l.length - q) (cap - q)) (l.drop q) := by
  by_cases e : cap = q
  · obtain ⟨a', cap', he, hl, hx, hn, hp⟩ := h
    injection he with e1 e2 e3
    subst e3
    have : l.drop q = [] := List.drop_eq_nil_of_le (by omega)
    rw [this, show l.length - q = 0 by omega]
    exact ⟨_, cap - q, rfl, by simp, by omega, fun e => (by cases e), fun h0 => absurd h0 (by simp)⟩
  · rw [hob, if_neg e]
    exact h.drop q hq

theorem fst_short {l : List UInt8} {n : Nat} (hn : n = cntL (l.drop 4)) (h8 : 8 ≤ l.length) (h : l.length < 8 + n + mis n) : fstS l = (ckZ, 0, 3) := by
  subst hn
  unfold fstS
  rw [if_neg (by omega), if_pos h]
theorem fst_good {l : List UInt8} {n : Nat} (hn : n = cntL (l.drop 4)) (h8 : 8 ≤ l.length) (h : ¬ l.length < 8 + n + mis n) (h1 : okN (l.take 4) = true) (h2 : zerL (((l.drop 8).drop n).take (mis n)) = true) :
    fstS l = ((⟨(l.take 4).toArray⟩, ⟨((l.drop 8).take n).toArray⟩), 8 + n + mis n, 0) := by
  subst hn
  unfold fstS
  rw [if_neg (by omega), if_neg h, h1, h2]
  rfl
theorem fst_bad {l : List UInt8} {n : Nat} (hn : n = cntL (l.drop 4)) (h8 : 8 ≤ l.length) (h : ¬ l.length < 8 + n + mis n) (h1 : okN (l.take 4) = false ∨ zerL (((l.drop 8).drop n).take (mis n)) = false) :
    fstS l = (ckZ, 0, 4) := by
  subst hn
  unfold fstS
  rw [if_neg (by omega), if_neg h, if_neg (by rcases h1 with h1 | h1 <;> rw [h1] <;> simp)]

theorem ret_ck {x y : Value} {a b : Int} (h : a = b) : Ending.returned (.tuple #[x, .int .i64 a, y]) = .returned (.tuple #[x, .int .i64 b, y]) := by rw [h]

def FstPost (w : World) (l : List UInt8) (e : Ending) (w' : World) : Prop :=
  e = .returned (.tuple #[.agg #[.string (fstS l).1.1, .string (fstS l).1.2], .int .i64 ((fstS l).2.1 : Int), .int .i64 (fstS l).2.2]) ∧ Below w.heap.size w w'

set_option maxHeartbeats 4000000 in
theorem first_any (v : Value) (l : List UInt8) (w : World) (h : By w v l) (hl : (l.length : Int) ≤ 1000000) : Calls Try.prog 30 #[v] w fun e w' => FstPost w l e w' := by
  obtain ⟨a, cap, rfl, hc, hm, hn⟩ := h.shape
  by_cases h8 : (l.length : Int) < 8
  · have HF : Hid (fstS l = (ckZ, 0, 3)) := by
      unfold Hid fstS
      rw [if_pos (by omega)]
    unfold FstPost
    rw [HF.out]
    go_enter Try.func30, Try.ntmps30
    go_wp2_with fail
    exact bodyPost_ret (results_ck3 rfl _ _ w.heap.size ckZ rfl (BxC.new w ckZ)) rfl ⟨rfl, (Below.refl _ _).alloc (Nat.le_refl _) _⟩
  · obtain ⟨b, off, rfl, hlt, -⟩ := h.at 0 (by omega)
    have bA := (Below.refl w.heap.size w).alloc (Nat.le_refl _) (.cells #[.string ckZ.1, .string ckZ.2] 39)
    have hA := h.under bA
    have s4 := hA.drop 4 (by omega)
    obtain ⟨ob, hob⟩ : ∃ ob, ob = if cap = 8 then off else off + 8 := ⟨_, rfl⟩
    have s8 := hA.dropI 8 ob (by omega) hob
    have hP8 : (if cap = 8 then some (⟨b, off, none⟩ : Addr) else some ⟨b, off + 8, none⟩) = some ⟨b, ob, none⟩ := by rw [hob]; split <;> rfl
    clear hob
    have n4 := hA.take 4 4 (by omega) (Nat.le_refl _) (by omega)
    have hct := cnt_lt (l.drop 4)
    have hd4 : (l.drop 4).length = l.length - 4 := by simp
    have hd8 : (l.drop 8).length = l.length - 8 := by simp
    have ht4 : (l.take 4).length = 4 := by simp; omega
    have HC : Hid (∀ W : World, By W (.slice (some ⟨b, off + 4, none⟩) (l.length - 4) (cap - 4)) (l.drop 4) → Calls Try.prog 29 #[.slice (some ⟨b, off + 4, none⟩) (l.length - 4) (cap - 4)] W fun e w' => e = .returned (.int .i64 (cntL (l.drop 4) : Int)) ∧ Below W.heap.size W w') := fun W hW => count_any _ _ W hW (by omega)
    have h8' : (8 : Int) ≤ (l.length : Int) := by omega
    have i4 : (4 : Int) ≤ (l.length : Int) := by omega
    have ic4 : (4 : Int) ≤ (cap : Int) := by omega
    have ic8 : (8 : Int) ≤ (cap : Int) := by omega
    obtain ⟨n, hnn⟩ : ∃ n, n = cntL (l.drop 4) := ⟨_, rfl⟩
    rw [← hnn] at HC hct
    have HNN : Hid (n = cntL (l.drop 4)) := hnn
    clear hnn
    go_enter Try.func30, Try.ntmps30
    go_wp2_with fail
    go_quiet (fail)
    go_wp2_with fail
    refine (HC.out _ (s4.under (below_drewN (Below.refl _ _) _))).mono ?_
    rintro e w1 ⟨rfl, b1⟩
    have bw1 : Below w.heap.size w w1 := (below_drewN bA nq).trans (b1.mono (by simp))
    have HX1 : Hid (BxC w1 w.heap.size ckZ) := (BxC.new w ckZ).under ((below_drewN (Below.refl _ _) nq).trans b1)
    have s8' := (s8.under (below_drewN (Below.refl _ _) nq)).under b1
    have n4' := (n4.under (below_drewN (Below.refl _ _) nq)).under b1
    clear s4 s8 n4 b1 HC bA hA h hP8
    obtain ⟨q, hq⟩ : ∃ q, q = mis n := ⟨_, rfl⟩
    have hq4 := mis_lt n
    rw [← hq] at hq4
    have HQ : Hid (q = mis n) := hq
    clear hq
    have HBW : Hid _ := bw1
    clear bw1 hn hd4 hd8 ht4 i4 ic4
    have hbi : ((l.length - 8 : Nat) : Int) = (l.length : Int) - 8 := by omega
    obtain ⟨NM, hNM⟩ : ∃ NM : ByteArray, NM = ⟨(l.take 4).toArray⟩ := ⟨_, rfl⟩
    have hNMl : NM.data.toList = l.take 4 := by rw [hNM]
    have hNMs : (NM.size : Int) ≤ 140737488355328 := by
      have : NM.data.toList.length = NM.size := by simp
      rw [hNMl] at this
      simp at this
      omega
    have n4t : ∀ m, (convert 22 9 (.slice (some ⟨b, off, none⟩) 4 4)).run Try.prog (w1.drewN m) = .ok (.string NM) (w1.drewN m) := fun m => by rw [hNM]; exact (n4'.under (below_drewN (Below.refl _ _) m)).text
    have HNM : Hid (NM = ⟨(l.take 4).toArray⟩) := hNM
    have HNL : Hid (NM.data.toList = l.take 4) := hNMl
    clear hNM hNMl n4'
    obtain ⟨x0, x1, f0, f1⟩ := HX1.out.facts
    by_cases t1 : (l.length : Int) - 8 < (n : Int)
    · have HF : Hid (fstS l = (ckZ, 0, 3)) := fst_short HNN.out (by omega) (by omega)
      go_wp2_with fail
      refine bodyPost_ret (results_ck3 rfl _ _ w.heap.size ckZ rfl (HX1.out.set _ _)) rfl ⟨by rw [HF.out]; rfl, (HBW.out.setCell (Nat.le_refl _) _).setCell (Nat.le_refl _) _⟩
    · have hn1 : (n : Int) ≤ (l.length : Int) - 8 := by omega
      have HX : Hid _ := x0
      have HX' : Hid _ := x1
      go_wp2_with fail
      refine (missing_any n _ (by omega)).mono ?_
      rintro e w2 ⟨rfl, rfl⟩
      rw [← HQ.out]
      by_cases t2 : (l.length : Int) - 8 < (n : Int) + (q : Int)
      · have HF : Hid (fstS l = (ckZ, 0, 3)) := fst_short HNN.out (by omega) (by rw [← HQ.out]; omega)
        go_wp2_with fail
        refine bodyPost_ret (results_ck3 rfl _ _ w.heap.size ckZ rfl (HX1.out.set _ _)) rfl ⟨by rw [HF.out]; rfl, (HBW.out.setCell (Nat.le_refl _) _).setCell (Nat.le_refl _) _⟩
      · have hn2 : (n : Int) + (q : Int) ≤ (l.length : Int) - 8 := by omega
        have hn3 : (n : Int) + (q : Int) ≤ ((cap - 8 : Nat) : Int) := by omega
        have hn4 : (n : Int) ≤ ((cap - 8 : Nat) : Int) := by omega
        have hd8 : (l.drop 8).length = l.length - 8 := by simp
        have dT := By.take s8' n n (by omega) (Nat.le_refl _) (by omega)
        obtain ⟨oq, fT, hcase⟩ : ∃ oq, By w2 (.slice (some ⟨b, oq, none⟩) q q) (((l.drop 8).drop n).take q) ∧ ((q = 0 ∧ oq = ob) ∨ ((¬ n + q = n) ∧ oq = ob + n)) := by
          have d1 := By.drop s8' n (by omega)
          by_cases e : q = 0
          · refine ⟨ob, ?_, .inl ⟨e, rfl⟩⟩
            rw [e, List.take_zero]
            exact ⟨_, 0, rfl, by simp, by omega, fun e => (by cases e), fun h0 => absurd h0 (by simp)⟩
          · refine ⟨ob + n, ?_, .inr ⟨by omega, rfl⟩⟩
            have := By.take d1 q q (by simp; omega) (Nat.le_refl _) (by omega)
            exact this
        obtain ⟨DT, hDT⟩ : ∃ DT : ByteArray, DT = ⟨((l.drop 8).take n).toArray⟩ := ⟨_, rfl⟩
        have dtt : ∀ m, (convert 22 9 (.slice (some ⟨b, ob, none⟩) n n)).run Try.prog (w2.drewN m) = .ok (.string DT) (w2.drewN m) := fun m => by rw [hDT]; exact (dT.under (below_drewN (Below.refl _ _) m)).text
        have HDT : Hid (DT = ⟨((l.drop 8).take n).toArray⟩) := hDT
        have HFT : Hid (By w2 (.slice (some ⟨b, oq, none⟩) q q) (((l.drop 8).drop n).take q)) := fT
        clear hDT dT fT hd8 s8'
        have HNS : Hid (¬ l.length < 8 + n + mis n) := by unfold Hid; rw [← HQ.out]; omega
        obtain ⟨q', hq'⟩ : ∃ q', q' = q := ⟨_, rfl⟩
        rw [← hq'] at HQ
        have HFT' : Hid (By w2 (.slice (some ⟨b, oq, none⟩) q q) (((l.drop 8).drop n).take q')) := by rw [hq']; exact HFT
        have HQQ : Hid (q' = q) := hq'
        clear hq' HFT
        rcases hcase with ⟨rfl, rfl⟩ | ⟨hne, rfl⟩
        all_goals
          go_wp2_with fail
          go_quiet (fail)
          go_wp2_with fail
          refine (isName_any NM _ hNMs).mono ?_
          rintro e w3 ⟨rfl, rfl⟩
          rw [HNL.out]
          cases ho : okN (l.take 4)
          · have HF : Hid (fstS l = (ckZ, 0, 4)) := fst_bad HNN.out (by omega) HNS.out (.inl ho)
            clear ho
            go_wp2_with fail
            refine bodyPost_ret (results_ck3 rfl _ _ w.heap.size ckZ rfl (BxC.set (HX1.out.under (below_drewN (Below.refl _ _) _)) _ _)) rfl ⟨by rw [HF.out]; rfl, ((below_drewN HBW.out _).setCell (Nat.le_refl _) _).setCell (Nat.le_refl _) _⟩
          · have HO : Hid _ := ho
            clear ho
            go_wp2_with fail
            refine (allZero_any _ _ _ (HFT'.out.under (below_drewN (Below.refl _ _) _))).mono ?_
            rintro e w4 ⟨rfl, rfl⟩
            cases hz : zerL (((l.drop 8).drop n).take q')
            · have HF : Hid (fstS l = (ckZ, 0, 4)) := fst_bad HNN.out (by omega) HNS.out (.inr (by rw [← HQ.out]; exact hz))
              clear hz
              go_wp2_with fail
              refine bodyPost_ret (results_ck3 rfl _ _ w.heap.size ckZ rfl (BxC.set (HX1.out.under (below_drewN (Below.refl _ _) _)) _ _)) rfl ⟨by rw [HF.out]; rfl, ((below_drewN HBW.out _).setCell (Nat.le_refl _) _).setCell (Nat.le_refl _) _⟩
            · have HF : Hid (fstS l = ((NM, DT), 8 + n + q', 0)) := by
                unfold Hid
                rw [HNM.out, HDT.out, HQ.out]
                exact fst_good HNN.out (by omega) HNS.out HO.out (by rw [← HQ.out]; exact hz)
              clear hz
              go_wp2_with fail
              refine bodyPost_ret (results_ck3 rfl _ _ w.heap.size (NM, DT) rfl (BxC.set (HX1.out.under (below_drewN (Below.refl _ _) _)) _ _)) rfl ⟨?_, ((below_drewN HBW.out _).setCell (Nat.le_refl _) _).setCell (Nat.le_refl _) _⟩
              rw [HF.out]
              exact ret_ck (b := ((8 + n + q' : Nat) : Int)) (by have := HQQ.out; omega)
end Go.Proofs.Ytifofcodmgglkaa
