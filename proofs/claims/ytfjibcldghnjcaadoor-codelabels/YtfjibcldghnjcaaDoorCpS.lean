/-
  compact: bytes.Equal; number.
-/
import Derived.Test.YtfjibcldghnjcaaDoorCpR
import Derived.Deep.RegionHeld3
namespace Go.Proofs.YtfjibcldghnjcaaDoor
open Go.RowKit
set_option linter.unusedVariables false
set_option linter.unusedSimpArgs false

theorem bytes_eq {l1 l2 : List UInt8} : ((⟨l1.toArray⟩ : ByteArray).toList == (⟨l2.toArray⟩ : ByteArray).toList) = decide (l1 = l2) := by
  rw [tl_eq, tl_eq]
  by_cases h : l1 = l2 <;> simp [h]

set_option maxRecDepth 100000 in
set_option maxHeartbeats 2000000 in
theorem equal_any (v1 v2 : Value) (l1 l2 : List UInt8) (w : World) (h1 : By w v1 l1) (h2 : By w v2 l2) :
    Calls Tryd.prog 48 #[v1, v2] w fun e w' => e = .returned (.bool (decide (l1 = l2))) ∧ Below w.heap.size w w' := by
  obtain ⟨a1, c1, rfl, hc1, hm1, hn1⟩ := h1.shape
  obtain ⟨a2, c2, rfl, hc2, hm2, hn2⟩ := h2.shape
  have t1 := h1.text
  have t2 := h2.text
  clear h1 h2
  go_enter Tryd.func48, Tryd.ntmps48
  go_wp2_with fail
  go_ret
  exact ⟨ret_bool (by by_cases h : l1 = l2 <;> simp [h]), Below.refl _ _⟩

theorem BxA.oth {w w' : World} {g gr : Nat} {t n : Int} {sl : Value} (h : BxA w gr t n sl) (ho : Oth g w w') (hne : gr ≠ g) : BxA w' gr t n sl := by
  have hl := h.lt
  unfold BxA at h ⊢
  rw [ho.block gr hl hne]; exact h
theorem Oth.setA {w w' : World} {g gr : Nat} (h : Oth g w w') (h1 : w.heap.size ≤ gr) (h2 : g ≤ gr) (t n : Int) (sl : Value) : Oth g w (setBxA w' gr t n sl) :=
  ⟨Below.setA h.below h2 t n sl, by rw [setA_size]; exact h.size, fun b hb hn => by rw [setA_block _ _ _ _ _ _ (by omega)]; exact h.block b hb hn⟩
theorem BxR.setA {w : World} {g gr : Nat} {v : Value} {at' : Int} (h : BxR w g v at') (hne : g ≠ gr) (t n : Int) (sl : Value) : BxR (setBxA w gr t n sl) g v at' := ⟨by rw [setA_block _ _ _ _ _ _ hne]; exact h.1, h.2⟩
theorem Oth.call {g : Nat} {w w1 w2 : World} (h : Oth g w w1) (b : Below w1.heap.size w1 w2) (hg : g ≤ w1.heap.size) : Oth g w w2 := h.trans (Oth.of b hg)

/-- What is answered of a number. -/
def NmPost (w : World) (g : Nat) (vb : Value) (p : Nat) (R : Rd) (e : Ending) (w' : World) : Prop :=
  e = .returned (.tuple #[agV R.t R.n (.slice none 0 0), .int .i64 R.e]) ∧ (R.e = 0 → BxR w' g vb ((p + R.k : Nat) : Int)) ∧ Oth g w w'
theorem NmPost.bad {w : World} {g : Nat} {vb : Value} {p : Nat} {k : Int} {w' : World} (hk : k ≠ 0) (ho : Oth g w w') : NmPost w g vb p (Rd.bad k) (.returned (.tuple #[agV 0 0 (.slice none 0 0), .int .i64 k])) w' := ⟨rfl, fun h => absurd h hk, ho⟩

theorem szF_bd (f : Nat) (hf : f < 256) : 0 ≤ (szF f).1 ∧ (szF f).1 ≤ 9 := by
  unfold szF
  repeat' split
  all_goals (dsimp only; omega)
theorem val_bd {f : Nat} {r : List UInt8} (h : Fol f r) (hf : f < 256) : -9223372036854775808 ≤ valN f r ∧ valN f r ≤ 9223372036854775807 := by
  rcases Nat.eq_zero_or_pos r.length with h0 | h0
  · obtain rfl : r = [] := List.eq_nil_of_length_eq_zero h0
    rcases h.cases hf with ⟨c, -⟩ | ⟨_, _, _, c⟩ | ⟨_, _, _, c, _⟩ | ⟨_, _, _, c, _⟩
    · simp only [valN, begN, accN, if_pos c, List.foldl_nil]; omega
    · simp at c
    · simp at c
    · simp at c
  · have hk : r.length - 1 < r.length := by omega
    have hb := beg_bd h hf _ hk
    have hx := ubd r (r.length - 1)
    have e : valN f r = accN (begN f r) (r.take (r.length - 1)) * 256 + ((r.getD (r.length - 1) 0).toNat : Int) := by
      have e1 : r = r.take (r.length - 1 + 1) := by rw [List.take_of_length_le (by omega)]
      show accN (begN f r) r = _
      conv => lhs; rw [e1]
      rw [List.take_succ_eq_append_getElem hk, acc_snoc]
      rw [← List.take_succ_eq_append_getElem hk, ← e1]
      simp [List.getD, hk]
    omega
theorem fit_mk {t n : Int} (h1 : 0 ≤ t) (h2 : t ≤ 7) (h3 : -9223372036854775808 ≤ n ∧ n ≤ 9223372036854775807) : El.fit ⟨t, n, none, 0, 0⟩ := by
  unfold El.fit
  dsimp only
  omega
theorem putS_sgl {t n : Int} (h : t ≠ 7) (a : Option Addr) (c : Nat) (L : List El) : El.putS ⟨t, n, a, 0, c⟩ L = if okN1 t n = true then sglB t n else [] := by
  unfold El.putS El.ok El.put El.ok1
  dsimp only
  rw [if_neg h, if_neg h]
  simp
/-- What is held in the region where what was read is put anew. -/
def NmHeld (g gx : Nat) (vb : Value) (q t n : Int) (w' : World) : Prop := (w'.cell? ⟨g, 0, none⟩ = some vb ∧ w'.cell? ⟨g, 1, none⟩ = some (.int .i64 q)) ∧ w'.cell? ⟨gx, 0, none⟩ = some (.int .i64 t) ∧ w'.cell? ⟨gx, 1, none⟩ = some (.int .i64 n) ∧ w'.cell? ⟨gx, 2, none⟩ = some (.slice none 0 0)
theorem nmHeld {w w' : World} {g gx : Nat} {vb : Value} {q t n : Int} (hb : BxR w g vb q) (hx : BxA w gx t n (.slice none 0 0)) (h : Below w.heap.size w w') : NmHeld g gx vb q t n w' := by
  obtain ⟨a0, a1, -⟩ := (hb.under h).facts
  obtain ⟨b0, b1, b2, -⟩ := (hx.under h).facts
  exact ⟨⟨a0, a1⟩, b0, b1, b2⟩

set_option maxRecDepth 100000 in
set_option maxHeartbeats 4000000 in
theorem number_bad (w : World) (g : Nat) (vb : Value) (l : List UInt8) (p : Nat) (hS : Spn w) (hb : BxR w g vb (p : Int)) (hv : By w vb l) (hp : p ≤ l.length)
    (hgood : ∀ f n : Nat, f = ((l.drop p).getD 0 0).toNat → (szF f).2 = true → (szF f).1 = (n : Int) → n ≤ 9 → ¬ l.length - p < 1 → ¬ l.length - (p + 1) < n → Calls Tryd.prog 44 #[.pointer (some ⟨g, 0, none⟩)] w fun e w' => NmPost w g vb p (numR (l.drop p)) e w') :
    Calls Tryd.prog 44 #[.pointer (some ⟨g, 0, none⟩)] w fun e w' => NmPost w g vb p (numR (l.drop p)) e w' := by
  obtain ⟨R, hR⟩ : ∃ R, numR (l.drop p) = R := ⟨_, rfl⟩
  have HR : Hid (numR (l.drop p) = R) := hR
  rw [hR] at hgood ⊢; clear hR
  have bA := (Below.refl w.heap.size w).alloc (Nat.le_refl _) (.cells #[.int .i64 0, .int .i64 0, .slice none 0 0] 30)
  have hglt := hb.lt
  have hlt1 : g < (w.alloc (.cells #[.int .i64 0, .int .i64 0, .slice none 0 0] 30)).heap.size := by simp; omega
  have HO1 : Hid (Oth g w (w.alloc (.cells #[.int .i64 0, .int .i64 0, .slice none 0 0] 30))) := Oth.of bA (by omega)
  have HB1 : Hid (BxR (w.alloc (.cells #[.int .i64 0, .int .i64 0, .slice none 0 0] 30)) g vb (p : Int)) := hb.under bA
  have HV1 : Hid (By (w.alloc (.cells #[.int .i64 0, .int .i64 0, .slice none 0 0] 30)) vb l) := hv.under bA
  have HS1 : Hid (Spn (w.alloc (.cells #[.int .i64 0, .int .i64 0, .slice none 0 0] 30))) := hS.under bA
  have HX1 : Hid (BxA (w.alloc (.cells #[.int .i64 0, .int .i64 0, .slice none 0 0] 30)) w.heap.size 0 0 (.slice none 0 0)) := BxA.new w 0 0 _
  have hgr : w.heap.size ≠ g := by omega
  obtain ⟨c0, c1, c2, -⟩ := HX1.out.facts
  obtain ⟨d0, d1, -, -⟩ := HB1.out.facts
  clear bA hS hb hv
  have hwsz : w.heap.size ≤ w.heap.size := Nat.le_refl _
  generalize hgd : w.heap.size = gr at *
  generalize hw1d : w.alloc (.cells #[.int .i64 0, .int .i64 0, .slice none 0 0] 30) = w1 at *
  by_cases hA : l.length - p < 1
  · have HE : Hid (R = Rd.bad 3) := by unfold Hid; rw [← HR.out]; unfold numR; rw [if_pos (by simp; omega)]
    go_enter Tryd.func44, Tryd.ntmps44
    go_wp2_with fail
    refine (take_short w1 g vb l p 1 HB1.out HV1.out hp (by omega) hA).mono ?_
    rintro e w2 ⟨rfl, b2⟩
    have X2 := HX1.out.under b2
    have HO2 : Hid (Oth g w w2) := HO1.out.call b2 (by omega)
    have HX2 : Hid (BxA w2 gr 0 0 (.slice none 0 0)) := X2
    obtain ⟨e0, e1, e2, f0, f1, f2⟩ := X2.facts
    clear b2 X2 c0 c1 c2 d0 d1 HX1 HB1 HV1 HS1 HO1
    go_wp2_with fail
    refine bodyPost_ret (results_a2 rfl _ _ gr 0 0 (.slice none 0 0) rfl (HX2.out.set 0 0 _)) rfl ?_
    rw [HE.out]
    exact NmPost.bad (by decide) (HO2.out.setA (by omega) (by omega) _ _ _)
  have hl0 : 0 < l.length := by omega
  have hdl : (l.drop p).length = l.length - p := by simp
  obtain ⟨f, hfd⟩ : ∃ f, f = ((l.drop p).getD 0 0).toNat := ⟨_, rfl⟩
  have hf : f < 256 := by rw [hfd]; exact UInt8.toNat_lt _
  have HT1 : Hid (By w1 vb l) := HV1.out
  have hg1 : g ≤ w1.heap.size := by omega
  -- the first byte
  have HTK : Hid (Calls Tryd.prog 45 #[.pointer (some ⟨g, 0, none⟩), .int .i64 1] w1 fun e w' => TkPost w1 g vb l p 1 e w') := take_some w1 g vb l p 1 HB1.out HV1.out hp (by omega) hA hl0
  have HSB : Hid (∀ W : World, Calls Tryd.prog 46 #[.int .u8 (f : Int)] W fun e w' => e = .returned (.tuple #[.int .i64 (szF f).1, .bool (szF f).2]) ∧ w' = W) := fun W => sizeBehind_any f hf W
  have hnr : numR (l.drop p) = if (szF f).2 = false then Rd.bad 4 else if ((l.drop p).length : Int) - 1 < (szF f).1 then Rd.bad 3 else if okN1 ((f % 8 : Nat) : Int) (valN f (((l.drop p).drop 1).take (szF f).1.toNat)) = true ∧ sglB ((f % 8 : Nat) : Int) (valN f (((l.drop p).drop 1).take (szF f).1.toNat)) = (l.drop p).take (1 + (szF f).1.toNat) then ⟨0, ((f % 8 : Nat) : Int), valN f (((l.drop p).drop 1).take (szF f).1.toNat), 1 + (szF f).1.toNat⟩ else Rd.bad 4 := by
    unfold numR
    rw [if_neg (by omega), ← hfd]
  have HNR : Hid _ := hnr
  clear hnr
  by_cases hB : (szF f).2 = false
  · have HE : Hid (R = Rd.bad 4) := by unfold Hid; rw [← HR.out, HNR.out, if_pos hB]
    rw [hB] at HSB
    go_enter Tryd.func44, Tryd.ntmps44
    go_wp2_with fail
    refine HTK.out.mono ?_
    rintro e w2 ⟨v1, rfl, y1, b2, o2⟩
    obtain ⟨a1, k1, rfl, hk1, hk2, hk3⟩ := y1.shape
    have hyl : ((l.drop p).take 1).length = 1 := by simp; omega
    obtain ⟨bb, bo, rfl, hblt, hbc⟩ := y1.at 0 (by omega)
    have hc1 := hbc 0 (by omega)
    rw [getD_take _ _ _ (by omega), ← hfd] at hc1
    simp only [Nat.add_zero] at hc1
    rw [hyl] at hk1 ⊢
    have HO2 : Hid (Oth g w w2) := HO1.out.trans o2
    have HX2 : Hid (BxA w2 gr 0 0 (.slice none 0 0)) := HX1.out.oth o2 hgr
    clear hbc y1 o2 b2 c0 c1 c2 d0 d1 HX1 HB1 HV1 HS1 HO1 HTK HT1 HNR hyl hfd
    go_wp2_with fail
    refine (HSB.out _).mono ?_
    rintro e w3 ⟨rfl, rfl⟩
    obtain ⟨e0, e1, e2, f0, f1, f2⟩ := HX2.out.facts
    go_wp2_with fail
    refine bodyPost_ret (results_a2 rfl _ _ gr 0 0 (.slice none 0 0) rfl (HX2.out.set 0 0 _)) rfl ?_
    rw [HE.out]
    exact NmPost.bad (by decide) (HO2.out.setA (by omega) (by omega) _ _ _)
  have hB2 : (szF f).2 = true := by cases h : (szF f).2; · exact absurd h hB
                                    · rfl
  obtain ⟨hz0, hz9⟩ := szF_bd f hf
  obtain ⟨n, hnd⟩ : ∃ n : Nat, n = (szF f).1.toNat := ⟨_, rfl⟩
  have hni : (szF f).1 = (n : Int) := by omega
  have hn9 : n ≤ 9 := by omega
  rw [hB2, hni] at HSB
  have HNQ : Hid (R = if ((l.drop p).length : Int) - 1 < (n : Int) then Rd.bad 3 else if okN1 ((f % 8 : Nat) : Int) (valN f (((l.drop p).drop 1).take n)) = true ∧ sglB ((f % 8 : Nat) : Int) (valN f (((l.drop p).drop 1).take n)) = (l.drop p).take (1 + n) then ⟨0, ((f % 8 : Nat) : Int), valN f (((l.drop p).drop 1).take n), 1 + n⟩ else Rd.bad 4) := by
    have := HNR.out
    rw [if_neg hB, hni, Int.toNat_natCast] at this
    unfold Hid
    rw [← HR.out]
    exact this
  clear HNR HR
  by_cases hC : l.length - (p + 1) < n
  · have HE : Hid (R = Rd.bad 3) := by unfold Hid; rw [HNQ.out, if_pos (by rw [hdl]; omega)]
    go_enter Tryd.func44, Tryd.ntmps44
    go_wp2_with fail
    refine HTK.out.mono ?_
    rintro e w2 ⟨v1, rfl, y1, b2, o2⟩
    obtain ⟨a1, k1, rfl, hk1, hk2, hk3⟩ := y1.shape
    have hyl : ((l.drop p).take 1).length = 1 := by simp; omega
    obtain ⟨bb, bo, rfl, hblt, hbc⟩ := y1.at 0 (by omega)
    have hc1 := hbc 0 (by omega)
    rw [getD_take _ _ _ (by omega), ← hfd] at hc1
    simp only [Nat.add_zero] at hc1
    rw [hyl] at hk1 ⊢
    have HO2 : Hid (Oth g w w2) := HO1.out.trans o2
    have HX2 : Hid (BxA w2 gr 0 0 (.slice none 0 0)) := HX1.out.oth o2 hgr
    have HV2 : Hid (By w2 vb l) := HV1.out.oth HB1.out o2
    have HB2 : Hid (BxR w2 g vb ((p + 1 : Nat) : Int)) := b2
    have hg2 : g ≤ w2.heap.size := by have := o2.size; omega
    clear hbc y1 o2 b2 c0 c1 c2 d0 d1 HX1 HB1 HV1 HS1 HO1 HTK HT1 hyl hfd hnd hni
    go_wp2_with fail
    refine (HSB.out _).mono ?_
    rintro e w3 ⟨rfl, rfl⟩
    go_wp2_with fail
    refine (take_short w3 g vb l (p + 1) n HB2.out HV2.out (by omega) hn9 hC).mono ?_
    rintro e w4 ⟨rfl, b4⟩
    have HO4 : Hid (Oth g w w4) := HO2.out.call b4 hg2
    have HX4 : Hid (BxA w4 gr 0 0 (.slice none 0 0)) := HX2.out.under b4
    obtain ⟨e0, e1, e2, f0, f1, f2⟩ := HX4.out.facts
    clear b4
    go_wp2_with fail
    refine bodyPost_ret (results_a2 rfl _ _ gr 0 0 (.slice none 0 0) rfl (HX4.out.set 0 0 _)) rfl ?_
    rw [HE.out]
    exact NmPost.bad (by decide) (HO4.out.setA (by omega) (by omega) _ _ _)
  exact hgood f n hfd hB2 hni hn9 hA hC
end Go.Proofs.YtfjibcldghnjcaaDoor
