/-
  compact: number, where all bytes are there.
-/
import Derived.Test.YtfjibcldghnjcaaDoorCpS
import Derived.Deep.Cut
namespace Go.Proofs.YtfjibcldghnjcaaDoor
open Go.RowKit
set_option linter.unusedVariables false
set_option linter.unusedSimpArgs false

set_option maxRecDepth 100000 in
set_option maxHeartbeats 1000000 in
theorem number_good (w : World) (g : Nat) (vb : Value) (l : List UInt8) (p : Nat) (hS : Spn w) (hb : BxR w g vb (p : Int)) (hv : By w vb l) (hp : p ≤ l.length)
    (f n : Nat) (hfd : f = ((l.drop p).getD 0 0).toNat) (hB2 : (szF f).2 = true) (hni : (szF f).1 = (n : Int)) (hn9 : n ≤ 9) (hA : ¬ l.length - p < 1) (hC : ¬ l.length - (p + 1) < n) :
    Calls Tryd.prog 44 #[.pointer (some ⟨g, 0, none⟩)] w fun e w' => NmPost w g vb p (numR (l.drop p)) e w' := by
  obtain ⟨R, hR⟩ : ∃ R, numR (l.drop p) = R := ⟨_, rfl⟩
  have HR : Hid (numR (l.drop p) = R) := hR
  rw [hR]; clear hR
  have bA := (Below.refl w.heap.size w).alloc (Nat.le_refl _) (.cells #[.int .i64 0, .int .i64 0, .slice none 0 0] 30)
  have hglt := hb.lt
  have hlt1 : g < (w.alloc (.cells #[.int .i64 0, .int .i64 0, .slice none 0 0] 30)).heap.size := by simp; omega
  have HO1 : Hid (Oth g w (w.alloc (.cells #[.int .i64 0, .int .i64 0, .slice none 0 0] 30))) := Oth.of bA (by omega)
  have HB1 : Hid (BxR (w.alloc (.cells #[.int .i64 0, .int .i64 0, .slice none 0 0] 30)) g vb (p : Int)) := hb.under bA
  have HV1 : Hid (By (w.alloc (.cells #[.int .i64 0, .int .i64 0, .slice none 0 0] 30)) vb l) := hv.under bA
  have HS1 : Hid (Spn (w.alloc (.cells #[.int .i64 0, .int .i64 0, .slice none 0 0] 30))) := hS.under bA
  have HX1 : Hid (BxA (w.alloc (.cells #[.int .i64 0, .int .i64 0, .slice none 0 0] 30)) w.heap.size 0 0 (.slice none 0 0)) := BxA.new w 0 0 _
  have hgr : w.heap.size ≠ g := by omega
  obtain ⟨c0, c1, c2, -⟩ := HX1.out.facts
  obtain ⟨d0, d1, -, -⟩ := HB1.out.facts
  clear bA hS hb hv
  have hwsz : w.heap.size ≤ w.heap.size := Nat.le_refl _
  generalize hgd : w.heap.size = gr at *
  generalize hw1d : w.alloc (.cells #[.int .i64 0, .int .i64 0, .slice none 0 0] 30) = w1 at *
  have hl0 : 0 < l.length := by omega
  have hdl : (l.drop p).length = l.length - p := by simp
  have hf : f < 256 := by rw [hfd]; exact UInt8.toNat_lt _
  have HT1 : Hid (By w1 vb l) := HV1.out
  have hg1 : g ≤ w1.heap.size := by omega
  -- the first byte
  have HTK : Hid (Calls Tryd.prog 45 #[.pointer (some ⟨g, 0, none⟩), .int .i64 1] w1 fun e w' => TkPost w1 g vb l p 1 e w') := take_some w1 g vb l p 1 HB1.out HV1.out hp (by omega) hA hl0
  have HSB : Hid (∀ W : World, Calls Tryd.prog 46 #[.int .u8 (f : Int)] W fun e w' => e = .returned (.tuple #[.int .i64 (szF f).1, .bool (szF f).2]) ∧ w' = W) := fun W => sizeBehind_any f hf W
  have hnr : numR (l.drop p) = if (szF f).2 = false then Rd.bad 4 else if ((l.drop p).length : Int) - 1 < (szF f).1 then Rd.bad 3 else if okN1 ((f % 8 : Nat) : Int) (valN f (((l.drop p).drop 1).take (szF f).1.toNat)) = true ∧ sglB ((f % 8 : Nat) : Int) (valN f (((l.drop p).drop 1).take (szF f).1.toNat)) = (l.drop p).take (1 + (szF f).1.toNat) then ⟨0, ((f % 8 : Nat) : Int), valN f (((l.drop p).drop 1).take (szF f).1.toNat), 1 + (szF f).1.toNat⟩ else Rd.bad 4 := by
    unfold numR
    rw [if_neg (by omega), ← hfd]
  have HNR : Hid _ := hnr
  clear hnr
  have hB : ¬ (szF f).2 = false := by rw [hB2]; decide
  rw [hB2, hni] at HSB
  have HNQ : Hid (R = if ((l.drop p).length : Int) - 1 < (n : Int) then Rd.bad 3 else if okN1 ((f % 8 : Nat) : Int) (valN f (((l.drop p).drop 1).take n)) = true ∧ sglB ((f % 8 : Nat) : Int) (valN f (((l.drop p).drop 1).take n)) = (l.drop p).take (1 + n) then ⟨0, ((f % 8 : Nat) : Int), valN f (((l.drop p).drop 1).take n), 1 + n⟩ else Rd.bad 4) := by
    have := HNR.out
    rw [if_neg hB, hni, Int.toNat_natCast] at this
    unfold Hid
    rw [← HR.out]
    exact this
  clear HNR HR
  -- all bytes are there
  obtain ⟨V, hV⟩ : ∃ V, V = valN f ((l.drop (p + 1)).take n) := ⟨_, rfl⟩
  obtain ⟨tg, htg⟩ : ∃ t : Int, t = ((f % 8 : Nat) : Int) := ⟨_, rfl⟩
  have hdd : (l.drop p).drop 1 = l.drop (p + 1) := by rw [List.drop_drop]
  have hFol : Fol f ((l.drop (p + 1)).take n) := ⟨hB2, by rw [hni]; simp; omega⟩
  have ht5 : 0 ≤ tg ∧ tg ≤ 5 := by
    have := hB2
    unfold szF at this
    by_cases h : 5 < f % 8
    · rw [if_pos h] at this; cases this
    · omega
  have hVr : -9223372036854775808 ≤ V ∧ V ≤ 9223372036854775807 := by
    rw [hV]
    exact val_bd hFol hf
  have HPA : Hid (∀ W : World, Spn W → Calls Tryd.prog 18 #[.slice none 0 0, .agg #[.int .i64 tg, .int .i64 V, .slice none 0 0]] W fun e w' => PutA W [] (El.putS ⟨tg, V, none, 0, 0⟩ []) e w') := fun W hS => put_any (.slice none 0 0) [] ⟨tg, V, none, 0, 0⟩ [] W hS (By.nil _) (by simp) (fit_mk ht5.1 (by omega) hVr) (Rw3.nil _) rfl
  have HNO : Hid (∀ W v, By W v ((l.drop (p + 1)).take n) → Calls Tryd.prog 47 #[.int .u8 (f : Int), v] W fun e w' => e = .returned (agV tg V (.slice none 0 0)) ∧ Below W.heap.size W w') := by
    intro W v hy
    rw [hV, htg]
    exact numberOf_any f hf v _ W hy hFol
  obtain ⟨D, hD⟩ : ∃ D, D = decide (([] ++ El.putS ⟨tg, V, none, 0, 0⟩ []) = (l.drop p).take (1 + n)) := ⟨_, rfl⟩
  have HD : Hid ((D = true → R = ⟨0, tg, V, 1 + n⟩) ∧ (D = false → R = Rd.bad 4)) := by
    unfold Hid
    have hRq : R = if okN1 tg V = true ∧ sglB tg V = (l.drop p).take (1 + n) then ⟨0, tg, V, 1 + n⟩ else Rd.bad 4 := by
      rw [HNQ.out, if_neg (by rw [hdl]; omega), hdd, ← hV, ← htg]
    rw [hD, List.nil_append, putS_sgl (by omega), hRq]
    have hne : (l.drop p).take (1 + n) ≠ [] := by
      intro e
      have := congrArg List.length e
      simp at this
      omega
    by_cases ho : okN1 tg V = true
    · rw [if_pos ho]
      constructor
      · intro h
        rw [if_pos ⟨ho, of_decide_eq_true h⟩]
      · intro h
        rw [if_neg (fun h2 => of_decide_eq_false h h2.2)]
    · rw [if_neg ho]
      constructor
      · intro h
        exact absurd (of_decide_eq_true h).symm hne
      · intro h
        rw [if_neg (fun h2 => ho h2.1)]
  go_enter Tryd.func44, Tryd.ntmps44
  go_wp2_with fail
  refine HTK.out.mono ?_
  rintro e w2 ⟨v1, rfl, y1, b2, o2⟩
  obtain ⟨a1, k1, rfl, hk1, hk2, hk3⟩ := y1.shape
  have hyl : ((l.drop p).take 1).length = 1 := by simp; omega
  obtain ⟨bb, bo, rfl, hblt, hbc⟩ := y1.at 0 (by omega)
  have hc1 := hbc 0 (by omega)
  rw [getD_take _ _ _ (by omega), ← hfd] at hc1
  simp only [Nat.add_zero] at hc1
  have HY1 : Hid (By w2 (.slice (some ⟨bb, bo, none⟩) 1 k1) ((l.drop p).take 1)) := by rw [hyl] at y1; exact y1
  rw [hyl] at hk1 ⊢
  have HO2 : Hid (Oth g w w2) := HO1.out.trans o2
  have HX2 : Hid (BxA w2 gr 0 0 (.slice none 0 0)) := HX1.out.oth o2 hgr
  have HV2 : Hid (By w2 vb l) := HV1.out.oth HB1.out o2
  have HS2 : Hid (Spn w2) := HS1.out.oth HB1.out o2
  have HB2 : Hid (BxR w2 g vb ((p + 1 : Nat) : Int)) := b2
  have hg2 : g ≤ w2.heap.size := by have := o2.size; omega
  have HFD : Hid (f = ((l.drop p).getD 0 0).toNat) := hfd
  clear hbc y1 o2 b2 c0 c1 c2 d0 d1 HX1 HB1 HV1 HS1 HO1 HTK HT1 hfd hni hV htg hdd hFol HNQ
  go_wp2_with fail
  refine (HSB.out _).mono ?_
  rintro e w3 ⟨rfl, rfl⟩
  go_wp2_with fail
  refine (take_some w3 g vb l (p + 1) n HB2.out HV2.out (by omega) hn9 hC hl0).mono ?_
  rintro e w4 ⟨v2, rfl, y2, b4, o4⟩
  have hY4 := HY1.out.oth HB2.out o4
  obtain ⟨bb', bo', he, hblt4, hbc4⟩ := hY4.at 0 (by omega)
  simp only [Option.some.injEq, Addr.mk.injEq, and_true] at he
  obtain ⟨rfl, rfl⟩ := he
  have hc4 := hbc4 0 (by omega)
  rw [getD_take _ _ _ (by omega), ← HFD.out] at hc4
  simp only [Nat.add_zero] at hc4
  have HO4 : Hid (Oth g w w4) := HO2.out.trans o4
  have HX4 : Hid (BxA w4 gr 0 0 (.slice none 0 0)) := HX2.out.oth o4 hgr
  have HV4 : Hid (By w4 vb l) := HV2.out.oth HB2.out o4
  have HS4 : Hid (Spn w4) := HS2.out.oth HB2.out o4
  have HB4 : Hid (BxR w4 g vb ((p + 1 + n : Nat) : Int)) := b4
  have hg4 : g ≤ w4.heap.size := by have := o4.size; omega
  obtain ⟨a2, k2, rfl, hk4, hk5, hk6⟩ := y2.shape
  have hyl2 : ((l.drop (p + 1)).take n).length = n := by simp; omega
  have HY2 : Hid (By w4 (.slice a2 n k2) ((l.drop (p + 1)).take n)) := by rw [hyl2] at y2; exact y2
  rw [hyl2] at hk4 ⊢
  clear hyl2 hY4 hbc4 o4 b4 y2 HX2 HV2 HS2 HB2 HO2 hc1
  go_wp2_with fail
  refine (HNO.out _ _ HY2.out).mono ?_
  rintro e w5 ⟨rfl, b5⟩
  unfold agV
  have bb5 := (Below.refl w5.heap.size w5).alloc (Nat.le_refl _) (.cells #[.int .i64 tg, .int .i64 V, .slice none 0 0] 30)
  have b56 := b5.trans (bb5.mono b5.size)
  have HO6 : Hid (Oth g w (w5.alloc (.cells #[.int .i64 tg, .int .i64 V, .slice none 0 0] 30))) := HO4.out.call b56 hg4
  have HX6 : Hid (BxA (w5.alloc (.cells #[.int .i64 tg, .int .i64 V, .slice none 0 0] 30)) gr 0 0 (.slice none 0 0)) := HX4.out.under b56
  have HV6 : Hid (By (w5.alloc (.cells #[.int .i64 tg, .int .i64 V, .slice none 0 0] 30)) vb l) := HV4.out.under b56
  have HS6 : Hid (Spn (w5.alloc (.cells #[.int .i64 tg, .int .i64 V, .slice none 0 0] 30))) := HS4.out.under b56
  have HB6 : Hid (BxR (w5.alloc (.cells #[.int .i64 tg, .int .i64 V, .slice none 0 0] 30)) g vb ((p + 1 + n : Nat) : Int)) := HB4.out.under b56
  have HA6 : Hid (BxA (w5.alloc (.cells #[.int .i64 tg, .int .i64 V, .slice none 0 0] 30)) w5.heap.size tg V (.slice none 0 0)) := BxA.new w5 tg V _
  clear bb5 b56 b5 HX4 HV4 HS4 HB4 HO4 hc4 HY1 HY2
  go_wp2_with fail
  generalize w5.alloc (.cells #[.int .i64 tg, .int .i64 V, .slice none 0 0] 30) = w6 at *
  generalize w5.heap.size = gx at *
  obtain ⟨av, cap, rfl, hcap1, hcap2, hcap3⟩ := HV6.out.shape
  obtain ⟨b, off, rfl, hblt6, -⟩ := HV6.out.at 0 hl0
  obtain ⟨q, hqd⟩ : ∃ q, q = p + 1 + n := ⟨_, rfl⟩
  obtain ⟨ob, hob⟩ : ∃ ob, ob = if cap = p then off else off + p := ⟨_, rfl⟩
  have hob2 : (if cap = p then some (⟨b, off, none⟩ : Addr) else some ⟨b, off + p, none⟩) = some ⟨b, ob, none⟩ := by rw [hob]; split <;> rfl
  have hsub := HV6.out.sub p q ob (by omega) (by omega) hob
  have HYS : Hid (∀ W, Below w6.heap.size w6 W → By W (.slice (some ⟨b, ob, none⟩) (q - p) (cap - p)) ((l.drop p).take (1 + n))) := by
    intro W hW
    rw [show q - p = 1 + n by omega] at hsub ⊢
    exact hsub.under hW
  have HEQ : Hid (∀ W v1 v2, By W v1 ([] ++ El.putS ⟨tg, V, none, 0, 0⟩ []) → By W v2 ((l.drop p).take (1 + n)) → Calls Tryd.prog 48 #[v1, v2] W fun e w' => e = .returned (.bool D) ∧ Below W.heap.size W w') := by
    intro W v1 v2 h1 h2
    rw [hD]
    exact equal_any v1 v2 _ _ W h1 h2
  have HPUT : Hid (∀ W, Below w6.heap.size w6 W → Calls Tryd.prog 18 #[.slice none 0 0, .agg #[.int .i64 tg, .int .i64 V, .slice none 0 0]] W fun e w' => PutA W [] (El.putS ⟨tg, V, none, 0, 0⟩ []) e w') := fun W hW => HPA.out W (HS6.out.under hW)
  rw [← hqd] at HB6
  have HKP : Hid (∀ W, Below w6.heap.size w6 W → NmHeld g gx (.slice (some ⟨b, off, none⟩) l.length cap) (q : Int) tg V W) := fun W hW => nmHeld HB6.out HA6.out hW
  unfold NmHeld at HKP
  have HBQ : Hid (BxR w6 g (.slice (some ⟨b, off, none⟩) l.length cap) (q : Int)) := HB6.out
  have HQD : Hid (q = p + 1 + n) := hqd
  have hq1 : (p : Int) ≤ (q : Int) := by omega
  have hq2 : (q : Int) ≤ (l.length : Int) := by omega
  have hq3 : (q : Int) ≤ (cap : Int) := by omega
  have hg6 : g ≤ w6.heap.size := by have := HB6.out.lt; omega
  obtain ⟨⟨z0, z1⟩, z2, z3, z4⟩ := HKP.out w6 (Below.refl _ _)
  clear hqd hob hsub hD HSB HNO HPA HFD hB2 hB hA hC
  go_cut [62] from 49 (fun s wc => s = .bool (!D) ∧ Below w6.heap.size w6 wc)
  case first =>
    go_region_held3 (fun w' => (w'.cell? ⟨g, 0, none⟩ = some (.slice (some ⟨b, off, none⟩) l.length cap) ∧ w'.cell? ⟨g, 1, none⟩ = some (.int .i64 (q : Int))) ∧ w'.cell? ⟨gx, 0, none⟩ = some (.int .i64 tg) ∧ w'.cell? ⟨gx, 1, none⟩ = some (.int .i64 V) ∧ w'.cell? ⟨gx, 2, none⟩ = some (.slice none 0 0))
      (first | exact HKP.out _ hk2 | exact HKP.out _ hk1 | exact HKP.out _ ((Below.refl _ _).drew) | exact HKP.out _ (Below.refl _ _))
      (first
        | (go_at_call 18; refine (HPUT.out _ (by first | exact (Below.refl _ _).drew | exact Below.refl _ _ | exact below_drewN (Below.refl _ _) _)).mono ?_; rintro e x1 ⟨v1, rfl, y1, b1⟩; have hk1 : Below w6.heap.size w6 x1 := (by first | exact ((Below.refl _ _).drew).trans (b1.mono (Nat.le_refl _)) | exact (below_drewN (Below.refl _ _) _).trans (b1.mono (Nat.le_refl _))))
        | (go_at_call 48; refine (HEQ.out _ _ _ y1 (HYS.out _ hk1)).mono ?_; rintro e x2 ⟨rfl, b2⟩; have hk2 : Below w6.heap.size w6 x2 := hk1.trans (b2.mono hk1.size)))
    all_goals
      go_wp2_with fail
      go_meet
      case rel => exact ⟨rfl, hk2⟩
  case rest =>
    obtain ⟨rfl, hk⟩ := hcut
    have HOC : Hid (Oth g w wc) := HO6.out.call hk hg6
    have HXC : Hid (BxA wc gr 0 0 (.slice none 0 0)) := HX6.out.under hk
    have HBC : Hid (BxR wc g (.slice (some ⟨b, off, none⟩) l.length cap) (q : Int)) := HBQ.out.under hk
    have HAC : Hid (BxA wc gx tg V (.slice none 0 0)) := HA6.out.under hk
    obtain ⟨e0, e1, e2, f0, f1, f2⟩ := HXC.out.facts
    obtain ⟨p0, p1, p2, -⟩ := HAC.out.facts
    clear hk HKP HEQ HPUT HYS z0 z1 z2 z3 z4 HO6 HX6 HBQ HA6 HB6 HV6 HS6
    cases D with
    | true =>
      have HE : Hid _ := HD.out.1 rfl
      go_wp2_with fail
      refine bodyPost_ret (results_a2 rfl _ _ gr tg V (.slice none 0 0) rfl (HXC.out.set tg V _)) rfl ?_
      rw [HE.out]
      refine ⟨rfl, fun _ => ?_, HOC.out.setA (by omega) (by omega) _ _ _⟩
      have := HBC.out.setA hgr.symm tg V (.slice none 0 0)
      rw [HQD.out] at this
      rw [show p + (1 + n) = p + 1 + n by omega]
      exact this
    | false =>
      have HE : Hid _ := HD.out.2 rfl
      go_wp2_with fail
      refine bodyPost_ret (results_a2 rfl _ _ gr 0 0 (.slice none 0 0) rfl (HXC.out.set 0 0 _)) rfl ?_
      rw [HE.out]
      exact NmPost.bad (by decide) (HOC.out.setA (by omega) (by omega) _ _ _)

theorem number_any (w : World) (g : Nat) (vb : Value) (l : List UInt8) (p : Nat) (hS : Spn w) (hb : BxR w g vb (p : Int)) (hv : By w vb l) (hp : p ≤ l.length) :
    Calls Tryd.prog 44 #[.pointer (some ⟨g, 0, none⟩)] w fun e w' => NmPost w g vb p (numR (l.drop p)) e w' :=
  number_bad w g vb l p hS hb hv hp (fun f n h1 h2 h3 h4 h5 h6 => number_good w g vb l p hS hb hv hp f n h1 h2 h3 h4 h5 h6)
end Go.Proofs.YtfjibcldghnjcaaDoor
