import Derived.Test.YtgjjeghnfhjnnaaDoorCrSim
import Derived.Test.YtgjjeghnfhjnnaaDoorZCdA
import Derived.Test.YtgjjeghnfhjnnaaDoorCpGet
import Derived.Deep.AppendLies
import Derived.Test.YtgjjeghnfhjnnaaDoorZOpS
import Derived.Deep.CutRange
import Derived.Deep.CutBlock

/-
  relictref06.plain, Get: just plnR, getS.
-/
namespace Go.Proofs.YtgjjeghnfhjnnaaDoor
open Go.RowKit
set_option linter.unusedVariables false
set_option linter.unusedSimpArgs false

/-- What plain answers. -/
def RpPost (w : World) (p : Nat) (R : Rd) (e : Ending) (w' : World) : Prop :=
  e = .returned (.tuple #[.int .i64 R.n, .int .i64 (if R.e = 0 then ((p + R.k : Nat) : Int) else 0), .int .i64 R.e]) ∧ Below w.heap.size w w'
theorem andU_all : ∀ n : Fin 256, bits .and .u8 (n.val : Int) 7 = ((n.val % 8 : Nat) : Int) := by decide +kernel

set_option maxRecDepth 100000 in
set_option maxHeartbeats 4000000 in
theorem rplain_any (w : World) (v : Value) (l : List UInt8) (p : Nat) (hv : By w v l) (hp : p ≤ l.length) :
    Calls Tryd.prog 41 #[v, .int .i64 (p : Int)] w (RpPost w p (plnR (l.drop p))) := by
  obtain ⟨av, cap, rfl, hc1, hc2, hc3⟩ := hv.shape
  have HSM : Hid (Calls Tryd.prog 40 #[.slice av l.length cap, .int .i64 (p : Int)] w (SmPost w p (numR (l.drop p)))) := simple_any w _ l p hv hp
  have hdl : (l.drop p).length = l.length - p := by simp
  obtain ⟨R, hR⟩ : ∃ R, plnR (l.drop p) = R := ⟨_, rfl⟩
  have HR : Hid (plnR (l.drop p) = R) := hR
  rw [hR]; clear hR
  obtain ⟨N, hN⟩ : ∃ N, numR (l.drop p) = N := ⟨_, rfl⟩
  rw [hN] at HSM
  by_cases hpl : p = l.length
  · subst hpl
    have HE : Hid (R = N) := by unfold Hid; rw [← HR.out, ← hN]; unfold plnR; rw [if_neg (by omega)]
    clear HR hN hv
    go_enter Tryd.func41, Tryd.ntmps41
    go_wp2_with fail
    refine HSM.out.mono ?_
    rintro e w1 ⟨rfl, b1⟩
    obtain ⟨nx, hnx⟩ : ∃ nx : Int, (if N.e = 0 then ((l.length + N.k : Nat) : Int) else 0) = nx := ⟨_, rfl⟩
    have HNX : Hid ((if N.e = 0 then ((l.length + N.k : Nat) : Int) else 0) = nx) := hnx
    rw [hnx]
    clear hnx
    have HB1 : Hid (Below w.heap.size w (w1.alloc (.cells #[.int .i64 N.t, .int .i64 N.n, .slice none 0 0] 25))) := b1.trans (((Below.refl w1.heap.size w1).alloc (Nat.le_refl _) _).mono b1.size)
    clear b1
    unfold agV
    go_wp2_with fail
    go_ret3
    rw [HE.out]
    refine ⟨?_, HB1.out⟩
    rw [HNX.out]
    rfl
  have hpi : (p : Int) < (l.length : Int) := by omega
  have hpc : (p : Int) < (cap : Int) := by omega
  obtain ⟨b, off, rfl, hlt, hcell⟩ := hv.at p (by omega)
  have hcz := hcell p (by omega)
  obtain ⟨f, hf⟩ : ∃ f, f = (l.getD p 0).toNat := ⟨_, rfl⟩
  rw [← hf] at hcz
  have hf2 : f < 256 := by rw [hf]; exact UInt8.toNat_lt _
  have a7 : bits .and .u8 (f : Int) 7 = ((f % 8 : Nat) : Int) := andU_all ⟨f, hf2⟩
  have h0 : (l.drop p).getD 0 0 = l.getD p 0 := by simp [List.getD]
  obtain ⟨tg, htg⟩ : ∃ t : Int, t = ((f % 8 : Nat) : Int) := ⟨_, rfl⟩
  rw [← htg] at a7
  have hx0 : 0 ≤ (f : Int) := by omega
  have hx1 : (f : Int) < 256 := by omega
  by_cases ht : tg = 0
  · have HE : Hid (R = N) := by
      unfold Hid; rw [← HR.out, ← hN]; unfold plnR
      rw [h0, ← hf, if_neg (by omega)]
    subst ht
    clear HR hN hv htg hf hcell
    go_enter Tryd.func41, Tryd.ntmps41
    go_wp2_with fail
    refine HSM.out.mono ?_
    rintro e w1 ⟨rfl, b1⟩
    obtain ⟨nx, hnx⟩ : ∃ nx : Int, (if N.e = 0 then ((p + N.k : Nat) : Int) else 0) = nx := ⟨_, rfl⟩
    have HNX : Hid ((if N.e = 0 then ((p + N.k : Nat) : Int) else 0) = nx) := hnx
    rw [hnx]
    clear hnx
    have HB1 : Hid (Below w.heap.size w (w1.alloc (.cells #[.int .i64 N.t, .int .i64 N.n, .slice none 0 0] 25))) := b1.trans (((Below.refl w1.heap.size w1).alloc (Nat.le_refl _) _).mono b1.size)
    clear b1
    unfold agV
    go_wp2_with fail
    go_ret3
    rw [HE.out]
    refine ⟨?_, HB1.out⟩
    rw [HNX.out]
    rfl
  · have HE : Hid (R = Rd.bad 4) := by
      unfold Hid; rw [← HR.out]; unfold plnR
      rw [h0, ← hf, if_pos (by omega)]
    have htb : (tg != 0) = true := by simp [ht]
    clear HR hN hv htg hf hcell
    go_enter Tryd.func41, Tryd.ntmps41
    go_wp2_with fail
    go_ret3
    rw [HE.out]
    refine ⟨?_, Below.refl _ _⟩
    have : (if (Rd.bad 4).e = 0 then ((p + (Rd.bad 4).k : Nat) : Int) else 0) = 0 := rfl
    rw [this]; rfl
theorem num_badE (l : List UInt8) (h : (numR l).e ≠ 0) : numR l = Rd.bad (numR l).e := by
  unfold numR at h ⊢
  by_cases h1 : l.length < 1
  · rw [if_pos h1]; rfl
  rw [if_neg h1] at h ⊢
  by_cases h2 : (szF (l.getD 0 0).toNat).2 = false
  · rw [if_pos h2]; rfl
  rw [if_neg h2] at h ⊢
  by_cases h3 : ((l.length : Int) - 1) < (szF (l.getD 0 0).toNat).1
  · rw [if_pos h3]; rfl
  rw [if_neg h3] at h ⊢
  split at h
  · exact absurd rfl h
  · rename_i h4
    rw [if_neg h4]; rfl
theorem pln_badE (l : List UInt8) (h : (plnR l).e ≠ 0) : plnR l = Rd.bad (plnR l).e := by
  unfold plnR at h ⊢
  split at h
  · rename_i h1
    rw [if_pos h1]; rfl
  · rename_i h1
    rw [if_neg h1]
    exact num_badE l h
/-- What Get answers of an operand that is no list. -/
def SgPost (w : World) (p : Nat) (R : Rd) (e : Ending) (w' : World) : Prop :=
  e = .returned (.tuple #[agV R.t R.n (.slice none 0 0), .int .i64 (if R.e = 0 then ((p + R.k : Nat) : Int) else 0), .int .i64 R.e]) ∧ Below w.heap.size w w'

set_option maxRecDepth 100000 in
set_option maxHeartbeats 4000000 in
theorem rget_sgl (w : World) (v : Value) (l : List UInt8) (p : Nat) (hv : By w v l) (hp : p ≤ l.length) (h23 : ¬ (p < l.length ∧ l.getD p 0 = 23)) :
    Calls Tryd.prog 16 #[v, .int .i64 (p : Int)] w (SgPost w p (sglR (l.drop p))) := by
  obtain ⟨av, cap, rfl, hc1, hc2, hc3⟩ := hv.shape
  have bA := (Below.refl w.heap.size w).alloc (Nat.le_refl _) (.cells #[.int .i64 0, .int .i64 0, .slice none 0 0] 25)
  have HB1 : Hid (Below w.heap.size w (w.alloc (.cells #[.int .i64 0, .int .i64 0, .slice none 0 0] 25))) := bA
  have HX1 : Hid (BxA (w.alloc (.cells #[.int .i64 0, .int .i64 0, .slice none 0 0] 25)) w.heap.size 0 0 (.slice none 0 0)) := BxA.new w 0 0 _
  have HV1 : Hid (By (w.alloc (.cells #[.int .i64 0, .int .i64 0, .slice none 0 0] 25)) (.slice av l.length cap) l) := hv.under bA
  have HSM : Hid (Calls Tryd.prog 40 #[.slice av l.length cap, .int .i64 (p : Int)] (w.alloc (.cells #[.int .i64 0, .int .i64 0, .slice none 0 0] 25)) (SmPost (w.alloc (.cells #[.int .i64 0, .int .i64 0, .slice none 0 0] 25)) p (numR (l.drop p)))) := simple_any _ _ l p HV1.out hp
  have hdl : (l.drop p).length = l.length - p := by simp
  have h0 : (l.drop p).getD 0 0 = l.getD p 0 := by simp [List.getD]
  obtain ⟨R, hR⟩ : ∃ R, sglR (l.drop p) = R := ⟨_, rfl⟩
  have HR : Hid (sglR (l.drop p) = R) := hR
  rw [hR]; clear hR bA hv
  have hpb : ¬ (p : Int) < 0 := by omega
  have hpb2 : ¬ (l.length : Int) < (p : Int) := by omega
  generalize hgd : w.heap.size = g0 at *
  generalize hw1d : w.alloc (.cells #[.int .i64 0, .int .i64 0, .slice none 0 0] 25) = w1 at *
  have hg01 : g0 < w1.heap.size := HX1.out.lt
  by_cases h71 : p < l.length ∧ l.getD p 0 = 71
  · obtain ⟨hpl, h71⟩ := h71
    obtain ⟨b, off, rfl, hlt, hcell⟩ := HV1.out.at p hpl
    have hcz := hcell p hpl
    rw [h71] at hcz
    have hpi : ((p : Int) == (l.length : Int)) = false := by simp; omega
    have hpc : (p : Int) < (cap : Int) := by omega
    have hpl2 : (p : Int) < (l.length : Int) := by omega
    have HPL : Hid (Calls Tryd.prog 41 #[.slice (some ⟨b, off, none⟩) l.length cap, .int .i64 ((p + 1 : Nat) : Int)] w1 (RpPost w1 (p + 1) (plnR (l.drop (p + 1))))) := rplain_any _ _ l (p + 1) HV1.out (by omega)
    obtain ⟨P, hP⟩ : ∃ P, plnR (l.drop (p + 1)) = P := ⟨_, rfl⟩
    have hPB := pln_badE (l.drop (p + 1))
    rw [hP] at HPL hPB
    have HE0 : Hid (R = if P.e = 0 then ⟨0, 6, P.n, 1 + P.k⟩ else Rd.bad P.e) := by
      unfold Hid
      rw [← HR.out]
      unfold sglR
      rw [if_pos ⟨by omega, by rw [h0]; exact h71⟩, List.drop_drop, hP]
    rw [show ((p + 1 : Nat) : Int) = (p : Int) + 1 by omega] at HPL
    clear HR hcell hP HSM h23
    obtain ⟨e0, e1, e2, f0, f1, f2⟩ := HX1.out.facts
    by_cases hpe : P.e = 0
    · have HE : Hid (R = ⟨0, 6, P.n, 1 + P.k⟩) := by unfold Hid; rw [HE0.out, if_pos hpe]
      obtain ⟨pe, pt, pn, pk⟩ := P
      dsimp only at hpe HE
      subst hpe
      clear HE0 hPB
      go_enter Tryd.func16, Tryd.ntmps16
      go_wp2_with fail
      refine HPL.out.mono ?_
      rintro e w2 ⟨rfl, b2⟩
      dsimp only
      rw [if_pos rfl]
      have HX2 : Hid (BxA w2 g0 0 0 (.slice none 0 0)) := HX1.out.under b2
      have HB2 : Hid (Below g0 w w2) := HB1.out.trans (b2.mono (by omega))
      have hcz2 : w2.cell? ⟨b, off + p, none⟩ = some (.int .u8 (((71 : UInt8).toNat : Nat) : Int)) := by rw [b2.cell (p := ⟨b, off + p, none⟩) hlt]; exact hcz
      clear hcz e0 e1 e2 f0 f1 f2 b2 HPL
      obtain ⟨e0, e1, e2, f0, f1, f2⟩ := HX2.out.facts
      go_wp2_with fail
      try simp only [Exit.inBlock, Exit.then]
      refine bodyPost_ret (results_a3 rfl _ _ g0 6 pn (.slice none 0 0) rfl (HX2.out.set 6 pn _)) rfl ?_
      rw [HE.out]
      refine ⟨?_, by rw [hgd]; exact Below.setA HB2.out (Nat.le_refl _) _ _ _⟩
      dsimp only
      rw [if_pos rfl, show p + (1 + pk) = p + 1 + pk by omega]
      rfl
    · have HE : Hid (R = Rd.bad P.e) := by unfold Hid; rw [HE0.out, if_neg hpe]
      rw [hPB hpe] at HPL
      have hbe : (P.e != 0) = true := by simp [hpe]
      have HPE : Hid (P.e ≠ 0) := hpe
      obtain ⟨pe, hpe2⟩ : ∃ pe, P.e = pe := ⟨_, rfl⟩
      rw [hpe2] at HPL hbe HE HPE
      clear HE0 hPB hpe hpe2
      go_enter Tryd.func16, Tryd.ntmps16
      go_wp2_with fail
      refine HPL.out.mono ?_
      rintro e w2 ⟨rfl, b2⟩
      have hif : (if (Rd.bad pe).e = 0 then ((p + 1 + (Rd.bad pe).k : Nat) : Int) else 0) = 0 := if_neg HPE.out
      rw [hif]
      dsimp only [Rd.bad]
      have HX2 : Hid (BxA w2 g0 0 0 (.slice none 0 0)) := HX1.out.under b2
      have HB2 : Hid (Below g0 w w2) := HB1.out.trans (b2.mono (by omega))
      clear hcz e0 e1 e2 f0 f1 f2 b2 HPL hif
      obtain ⟨e0, e1, e2, f0, f1, f2⟩ := HX2.out.facts
      go_wp2_with fail
      try simp only [Exit.inBlock, Exit.then]
      refine bodyPost_ret (results_a3 rfl _ _ g0 0 0 (.slice none 0 0) rfl (HX2.out.set 0 0 _)) rfl ?_
      rw [HE.out]
      refine ⟨?_, by rw [hgd]; exact Below.setA HB2.out (Nat.le_refl _) _ _ _⟩
      have hif : (if (Rd.bad pe).e = 0 then ((p + (Rd.bad pe).k : Nat) : Int) else 0) = 0 := if_neg HPE.out
      rw [hif]
      rfl
  · have HE : Hid (R = numR (l.drop p)) := by
      unfold Hid
      rw [← HR.out]
      unfold sglR
      rw [if_neg (by rw [h0]; exact fun h => h71 ⟨by omega, h.2⟩)]
    obtain ⟨N, hN⟩ : ∃ N, numR (l.drop p) = N := ⟨_, rfl⟩
    rw [hN] at HSM HE
    clear HR hN
    by_cases hpl : p = l.length
    · subst hpl
      clear h71 h23
      go_enter Tryd.func16, Tryd.ntmps16
      go_wp2_with fail
      refine HSM.out.mono ?_
      rintro e w2 ⟨rfl, b2⟩
      obtain ⟨nx, hnx⟩ : ∃ nx : Int, (if N.e = 0 then ((l.length + N.k : Nat) : Int) else 0) = nx := ⟨_, rfl⟩
      have HNX : Hid ((if N.e = 0 then ((l.length + N.k : Nat) : Int) else 0) = nx) := hnx
      rw [hnx]
      clear hnx
      have HX2 : Hid (BxA w2 g0 0 0 (.slice none 0 0)) := HX1.out.under b2
      have HB2 : Hid (Below g0 w w2) := HB1.out.trans (b2.mono (by omega))
      clear b2 HSM
      obtain ⟨e0, e1, e2, f0, f1, f2⟩ := HX2.out.facts
      unfold agV
      go_wp2_with fail
      try simp only [Exit.inBlock, Exit.then]
      refine bodyPost_ret (results_a3 rfl _ _ g0 N.t N.n (.slice none 0 0) rfl (HX2.out.set N.t N.n _)) rfl ?_
      rw [HE.out]
      refine ⟨?_, by rw [hgd]; exact Below.setA HB2.out (Nat.le_refl _) _ _ _⟩
      rw [HNX.out]
      rfl
    · have hplt : p < l.length := by omega
      obtain ⟨b, off, rfl, hlt, hcell⟩ := HV1.out.at p hplt
      have hcz := hcell p hplt
      have hpi : ((p : Int) == (l.length : Int)) = false := by simp; omega
      have hpc : (p : Int) < (cap : Int) := by omega
      have hpl2 : (p : Int) < (l.length : Int) := by omega
      obtain ⟨x, hx⟩ : ∃ x : Int, x = ((l.getD p 0).toNat : Int) := ⟨_, rfl⟩
      rw [← hx] at hcz
      have hx71 : (x != 71) = true := by
        simp only [bne_iff_ne, ne_eq]
        intro h
        exact h71 ⟨hplt, UInt8.toNat_inj.1 (by show (l.getD p 0).toNat = 71; omega)⟩
      have hx23 : (x != 23) = true := by
        simp only [bne_iff_ne, ne_eq]
        intro h
        exact h23 ⟨hplt, UInt8.toNat_inj.1 (by show (l.getD p 0).toNat = 23; omega)⟩
      clear h71 h23 hcell hx
      go_enter Tryd.func16, Tryd.ntmps16
      go_wp2_with fail
      refine HSM.out.mono ?_
      rintro e w2 ⟨rfl, b2⟩
      obtain ⟨nx, hnx⟩ : ∃ nx : Int, (if N.e = 0 then ((p + N.k : Nat) : Int) else 0) = nx := ⟨_, rfl⟩
      have HNX : Hid ((if N.e = 0 then ((p + N.k : Nat) : Int) else 0) = nx) := hnx
      rw [hnx]
      clear hnx
      have HX2 : Hid (BxA w2 g0 0 0 (.slice none 0 0)) := HX1.out.under b2
      have HB2 : Hid (Below g0 w w2) := HB1.out.trans (b2.mono (by omega))
      clear b2 HSM
      obtain ⟨e0, e1, e2, f0, f1, f2⟩ := HX2.out.facts
      unfold agV
      go_wp2_with fail
      try simp only [Exit.inBlock, Exit.then]
      refine bodyPost_ret (results_a3 rfl _ _ g0 N.t N.n (.slice none 0 0) rfl (HX2.out.set N.t N.n _)) rfl ?_
      rw [HE.out]
      refine ⟨?_, by rw [hgd]; exact Below.setA HB2.out (Nat.le_refl _) _ _ _⟩
      rw [HNX.out]
      rfl
end Go.Proofs.YtgjjeghnfhjnnaaDoor


/-
  relictref06.Get: just getS.
-/
namespace Go.Proofs.YtgjjeghnfhjnnaaDoor
open Go.RowKit
set_option linter.unusedVariables false
set_option linter.unusedSimpArgs false

theorem sgl_badE (l : List UInt8) (h : (sglR l).e ≠ 0) : sglR l = Rd.bad (sglR l).e := by
  unfold sglR at h ⊢
  split at h
  · rename_i h1
    rw [if_pos h1]
    split at h
    · exact absurd rfl h
    · rename_i h2; rw [if_neg h2]; rfl
  · rename_i h1
    rw [if_neg h1]
    exact num_badE l h
theorem op_not23 {l : List UInt8} (h : ¬ (0 < l.length ∧ l.getD 0 0 = 23)) : opR l = if (sglR l).e = 0 then (0, ⟨(sglR l).t, (sglR l).n, []⟩, (sglR l).k) else ((sglR l).e, .zero, 0) := by
  unfold opR
  rw [if_neg h]
theorem get_of_sgl {w w' : World} {p : Nat} {l : List UInt8} {e : Ending} (hp : p ≤ l.length) (h23 : ¬ (p < l.length ∧ l.getD p 0 = 23)) (h : SgPost w p (sglR (l.drop p)) e w') : GetPost w (getS l (p : Int)) e w' := by
  have h0 : (l.drop p).getD 0 0 = l.getD p 0 := by simp [List.getD]
  have hdl : (l.drop p).length = l.length - p := by simp
  have ho := op_not23 (l := l.drop p) (by rw [h0]; exact fun h => h23 ⟨by omega, h.2⟩)
  obtain ⟨rfl, hb⟩ := h
  unfold getS
  rw [if_neg (by omega), Int.toNat_natCast, ho]
  have hbad := sgl_badE (l.drop p)
  generalize sglR (l.drop p) = S at *
  by_cases hs : S.e = 0
  · rw [if_pos hs, if_pos rfl, if_pos hs, hs]
    exact ⟨.slice none 0 0, rfl, Rw3.nil _, ⟨none, 0, rfl, fun x hx => by cases hx⟩, hb⟩
  · obtain ⟨se, st, sn, sk⟩ := S
    dsimp only at hs
    have h := hbad hs
    unfold Rd.bad at h
    injection h with _ h1 h2 h3
    subst h1; subst h2; subst h3
    dsimp only
    rw [if_neg hs, if_neg hs]
    dsimp only
    rw [if_neg hs]
    exact GetPost.bad hb
theorem sgl_23 {l : List UInt8} (h : 0 < l.length) (h23 : l.getD 0 0 = 23) : sglR l = Rd.bad 4 := by
  unfold sglR
  rw [if_neg (by rw [h23]; exact fun h => absurd h.2 (by decide))]
  unfold numR
  rw [if_neg (by omega), h23, if_pos (by decide)]
theorem p_push1 {w0 wr wu w5 : World} {g : Nat} {v v5 : Value} {ps : List (Int × Int)} {a : Int × Int} {lit : Obj} (h : PSt w0 g v ps wr) (hb : Below wr.heap.size wr wu) (fa : El.fit (elS a))
    (hown : w5.ownsRow w0.heap.size 25 3 v5 (ps.length + 1) (cl3 (ps.map elS) ++ [.int .i64 a.1, .int .i64 a.2, .slice none 0 0])) (hgr : (wu.alloc lit).grownBy w5 v.ownBlock) (hloc : v5.ownBlock = v.ownBlock ∨ v5.ownBlock = some (wu.alloc lit).heap.size) :
    PSt w0 g v5 (ps ++ [a]) (w5.setCell ⟨g, 2, none⟩ v5) := by
  have hbx5 := p_box h hb hgr
  obtain ⟨h1, h2, h3, h4, h5, h6⟩ := h.under (hb.trans (((Below.refl _ _).alloc (Nat.le_refl _) lit).mono hb.size))
  have hrow := World.ownsRow.lt h3
  have hset : ∀ b, b ≠ g → (w5.setCell ⟨g, 2, none⟩ v5).heap[b]? = w5.heap[b]? := fun b hb => by
    simp only [World.setCell, Array.getElem?_modify]
    rw [if_neg (fun e => hb e.symm)]
  have hv5 : v5.ownBlock ≠ some g := by
    rcases hloc with e | e
    · rw [e]; exact h5
    · rw [e]; intro e2; injection e2 with e2; have := h1.lt; omega
  refine ⟨?_, h2, ?_, ?_, hv5, (h6.grown hgr h6.size (fun j hj => (hrow j hj).1)).setCell (by exact h2) _⟩
  · unfold BxA at hbx5 ⊢
    simp [World.setCell, Array.getElem?_modify, hbx5]
  · unfold AOwn
    rw [List.map_append, cl3_app, List.length_append, List.length_map]
    obtain ⟨e1, e2⟩ := hown
    refine ⟨by simpa [cl3, elS, El.sl] using e1, ?_⟩
    rcases e2 with e2 | ⟨gr, cap, cur, e3, e4, e5, e6⟩
    · exact .inl e2
    · have hne : gr ≠ g := fun e => hv5 (by rw [e3, e]; rfl)
      exact .inr ⟨gr, cap, cur, e3, e4, by rw [hset _ hne]; exact e5, by simpa [cl3, elS, El.sl] using e6⟩
  · intro p hp
    rcases List.mem_append.1 hp with hp | hp
    · exact h4 p hp
    · simp only [List.mem_cons, List.not_mem_nil, or_false] at hp
      subst hp; exact fa

set_option maxRecDepth 100000 in
set_option maxHeartbeats 4000000 in
theorem rget_list (w : World) (v : Value) (l : List UInt8) (p : Nat) (hv : By w v l) (hpl : p < l.length) (h23 : l.getD p 0 = 23) :
    Calls Tryd.prog 16 #[v, .int .i64 (p : Int)] w fun e w' => GetPost w (getS l (p : Int)) e w' := by
  obtain ⟨i0, hi, hz0, hz1, hz2⟩ := info_parts Tryd.infoArg
  obtain ⟨av, cap, rfl, hc1, hc2, hc3⟩ := hv.shape
  have bA := (Below.refl w.heap.size w).alloc (Nat.le_refl _) (.cells #[.int .i64 0, .int .i64 0, .slice none 0 0] 25)
  have HB1 : Hid (Below w.heap.size w (w.alloc (.cells #[.int .i64 0, .int .i64 0, .slice none 0 0] 25))) := bA
  have HX1 : Hid (BxA (w.alloc (.cells #[.int .i64 0, .int .i64 0, .slice none 0 0] 25)) w.heap.size 0 0 (.slice none 0 0)) := BxA.new w 0 0 _
  have HV1 : Hid (By (w.alloc (.cells #[.int .i64 0, .int .i64 0, .slice none 0 0] 25)) (.slice av l.length cap) l) := hv.under bA
  have hdl : (l.drop p).length = l.length - p := by simp
  have h0 : (l.drop p).getD 0 0 = l.getD p 0 := by simp [List.getD]
  obtain ⟨R, hR⟩ : ∃ R, getS l (p : Int) = R := ⟨_, rfl⟩
  have hRE : R = (let P := plnR (l.drop (p + 1)); let Y := sglsR P.n.toNat (l.drop (p + 1 + P.k)); if P.e ≠ 0 then (Ar.zero, 0, P.e) else if 40 < P.n then (Ar.zero, 0, 4) else if Y.1 = 0 then (⟨7, 0, Y.2.1⟩, ((p + 1 + P.k + Y.2.2 : Nat) : Int), 0) else (Ar.zero, 0, Y.1)) := by
    have e2 : (l.drop p).drop (1 + (plnR (l.drop (p + 1))).k) = l.drop (p + 1 + (plnR (l.drop (p + 1))).k) := by rw [List.drop_drop]; congr 1; omega
    have hO : opR (l.drop p) = (if (plnR (l.drop (p + 1))).e ≠ 0 then ((plnR (l.drop (p + 1))).e, Ar.zero, 0) else if 40 < (plnR (l.drop (p + 1))).n then (4, Ar.zero, 0) else if (sglsR (plnR (l.drop (p + 1))).n.toNat (l.drop (p + 1 + (plnR (l.drop (p + 1))).k))).1 = 0 then (0, ⟨7, 0, (sglsR (plnR (l.drop (p + 1))).n.toNat (l.drop (p + 1 + (plnR (l.drop (p + 1))).k))).2.1⟩, 1 + (plnR (l.drop (p + 1))).k + (sglsR (plnR (l.drop (p + 1))).n.toNat (l.drop (p + 1 + (plnR (l.drop (p + 1))).k))).2.2) else ((sglsR (plnR (l.drop (p + 1))).n.toNat (l.drop (p + 1 + (plnR (l.drop (p + 1))).k))).1, Ar.zero, 0)) := by
      unfold opR
      rw [if_pos ⟨by omega, by rw [h0]; exact h23⟩, List.drop_drop, e2]
    rw [← hR]
    unfold getS
    rw [if_neg (by omega), Int.toNat_natCast, hO]
    dsimp only
    clear hO e2
    generalize plnR (l.drop (p + 1)) = P
    generalize sglsR P.n.toNat (l.drop (p + 1 + P.k)) = Y
    by_cases a1 : P.e ≠ 0
    · rw [if_pos a1, if_pos a1]; dsimp only; rw [if_neg a1]
    · rw [if_neg a1, if_neg a1]
      by_cases a2 : 40 < P.n
      · rw [if_pos a2, if_pos a2]; rfl
      · rw [if_neg a2, if_neg a2]
        by_cases a3 : Y.1 = 0
        · rw [if_pos a3, if_pos a3]
          dsimp only
          rw [if_pos rfl]
          refine Prod.ext rfl (Prod.ext ?_ rfl)
          dsimp only
          omega
        · rw [if_neg a3, if_neg a3]
          dsimp only
          rw [if_neg a3]
  rw [hR]
  clear hR bA hv
  have HPL : Hid (Calls Tryd.prog 41 #[.slice av l.length cap, .int .i64 ((p + 1 : Nat) : Int)] (w.alloc (.cells #[.int .i64 0, .int .i64 0, .slice none 0 0] 25)) (RpPost (w.alloc (.cells #[.int .i64 0, .int .i64 0, .slice none 0 0] 25)) (p + 1) (plnR (l.drop (p + 1))))) := rplain_any _ _ l (p + 1) HV1.out (by omega)
  obtain ⟨b, off, rfl, hlt, hcell⟩ := HV1.out.at p hpl
  have hcz := hcell p hpl
  rw [h23] at hcz
  have hpb : ¬ (p : Int) < 0 := by omega
  have hpb2 : ¬ (l.length : Int) < (p : Int) := by omega
  have hpi : ((p : Int) == (l.length : Int)) = false := by simp; omega
  have hpc : (p : Int) < (cap : Int) := by omega
  have hpl2 : (p : Int) < (l.length : Int) := by omega
  have hPB := pln_badE (l.drop (p + 1))
  have hPR := @pln_read (l.drop (p + 1))
  generalize plnR (l.drop (p + 1)) = P at *
  rw [show ((p + 1 : Nat) : Int) = (p : Int) + 1 by omega] at HPL
  generalize hgd : w.heap.size = g0 at *
  generalize hw1d : w.alloc (.cells #[.int .i64 0, .int .i64 0, .slice none 0 0] 25) = w1 at *
  have hg01 : g0 < w1.heap.size := HX1.out.lt
  obtain ⟨e0, e1, e2, f0, f1, f2⟩ := HX1.out.facts
  clear hcell
  by_cases hpe : P.e = 0
  case neg =>
    have HE : Hid (R = (Ar.zero, 0, P.e)) := by unfold Hid; rw [hRE]; dsimp only; rw [if_pos hpe]
    rw [hPB hpe] at HPL
    have hbe : (P.e != 0) = true := by simp [hpe]
    have HPE : Hid (P.e ≠ 0) := hpe
    obtain ⟨pe, hpe2⟩ : ∃ pe, P.e = pe := ⟨_, rfl⟩
    rw [hpe2] at HPL hbe HE HPE
    clear hRE hPB hPR hpe hpe2
    go_enter Tryd.func16, Tryd.ntmps16
    go_wp2_with fail
    refine HPL.out.mono ?_
    rintro e w2 ⟨rfl, b2⟩
    have hif : (if (Rd.bad pe).e = 0 then ((p + 1 + (Rd.bad pe).k : Nat) : Int) else 0) = 0 := if_neg HPE.out
    rw [hif]
    dsimp only [Rd.bad]
    have HX2 : Hid (BxA w2 g0 0 0 (.slice none 0 0)) := HX1.out.under b2
    have HB2 : Hid (Below g0 w w2) := HB1.out.trans (b2.mono (by omega))
    clear hcz e0 e1 e2 f0 f1 f2 b2 HPL hif
    obtain ⟨e0, e1, e2, f0, f1, f2⟩ := HX2.out.facts
    go_wp2_with fail
    try simp only [Exit.inBlock, Exit.then]
    refine bodyPost_ret (results_a3 rfl _ _ g0 0 0 (.slice none 0 0) rfl (HX2.out.set 0 0 _)) rfl ?_
    rw [HE.out]
    refine GetPost.bad ?_
    rw [hgd]
    exact Below.setA HB2.out (Nat.le_refl _) _ _ _
  case pos =>
  obtain ⟨-, -, hk1, hn0, hn1, -, -⟩ := hPR hpe
  obtain ⟨pe, pt, pn, pk⟩ := P
  dsimp only at hpe hk1 hn0 hn1 hRE HPL hPB
  subst hpe
  have hk2 : p + 1 + pk ≤ l.length := by rw [List.length_drop] at hk1; omega
  rw [if_neg (by simp)] at hRE
  clear hPB hPR hk1
  by_cases h40 : (40 : Int) < pn
  · have HE : Hid (R = (Ar.zero, 0, 4)) := by unfold Hid; rw [hRE, if_pos h40]
    clear hRE
    go_enter Tryd.func16, Tryd.ntmps16
    go_wp2_with fail
    refine HPL.out.mono ?_
    rintro e w2 ⟨rfl, b2⟩
    dsimp only
    rw [if_pos rfl]
    have HX2 : Hid (BxA w2 g0 0 0 (.slice none 0 0)) := HX1.out.under b2
    have HB2 : Hid (Below g0 w w2) := HB1.out.trans (b2.mono (by omega))
    have hcz2 : w2.cell? ⟨b, off + p, none⟩ = some (.int .u8 (((23 : UInt8).toNat : Nat) : Int)) := by rw [b2.cell (p := ⟨b, off + p, none⟩) hlt]; exact hcz
    clear hcz e0 e1 e2 f0 f1 f2 b2 HPL
    obtain ⟨e0, e1, e2, f0, f1, f2⟩ := HX2.out.facts
    go_wp2_with fail
    try simp only [Exit.inBlock, Exit.then]
    refine bodyPost_ret (results_a3 rfl _ _ g0 0 0 (.slice none 0 0) rfl (HX2.out.set 0 0 _)) rfl ?_
    rw [HE.out]
    refine GetPost.bad ?_
    rw [hgd]
    exact Below.setA HB2.out (Nat.le_refl _) _ _ _
  rw [if_neg h40] at hRE
  obtain ⟨m, rfl⟩ : ∃ m : Nat, pn = (m : Int) := ⟨pn.toNat, by omega⟩
  rw [Int.toNat_natCast] at hRE
  obtain ⟨Q, hQ⟩ : ∃ Q, Q = p + 1 + pk := ⟨_, rfl⟩
  rw [← hQ] at hRE hk2
  have HQD : Hid (p + 1 + pk = Q) := hQ.symm
  obtain ⟨Y, hY⟩ : ∃ Y, sglsR m (l.drop Q) = Y := ⟨_, rfl⟩
  rw [hY] at hRE
  have HRE : Hid (R = if Y.1 = 0 then (⟨7, 0, Y.2.1⟩, ((Q + Y.2.2 : Nat) : Int), 0) else (Ar.zero, 0, Y.1)) := hRE
  have HY : Hid (sglsR m (l.drop Q) = Y) := hY
  have hm40 : m ≤ 40 := by omega
  clear hRE hY hQ
  go_enter Tryd.func16, Tryd.ntmps16
  go_wp2_with fail
  refine HPL.out.mono ?_
  rintro e w2 ⟨rfl, b2⟩
  dsimp only
  rw [if_pos rfl, HQD.out]
  have HX2 : Hid (BxA w2 g0 0 0 (.slice none 0 0)) := HX1.out.under b2
  have HB2 : Hid (Below g0 w w2) := HB1.out.trans (b2.mono (by omega))
  have HV2 : Hid (By w2 (.slice (some ⟨b, off, none⟩) l.length cap) l) := HV1.out.under b2
  have hcz2 : w2.cell? ⟨b, off + p, none⟩ = some (.int .u8 (((23 : UInt8).toNat : Nat) : Int)) := by rw [b2.cell (p := ⟨b, off + p, none⟩) hlt]; exact hcz
  have hg02 : g0 < w2.heap.size := HX2.out.lt
  clear hcz e0 e1 e2 f0 f1 f2 b2 HPL HX1 HB1 HV1
  have HPS : Hid (PSt w2 w2.heap.size (.slice none 0 0) [] (w2.alloc (.cells #[.int .i64 7, .int .i64 0, .slice none 0 0] 25))) := ⟨BxA.new _ _ _ _, Nat.le_refl _, AOwn.nil _ _, fun p hp => absurd hp (by simp), fun e => (by cases e), (Below.refl w2.heap.size w2).alloc (Nat.le_refl _) _⟩
  go_wp2_with fail
  generalize w2.alloc (.cells #[.int .i64 7, .int .i64 0, .slice none 0 0] 25) = w3 at *
  generalize hgx : w2.heap.size = gx at *
  go_loopg [8, 11] m (fun gk s8 s11 wr => ∃ (k q : Nat) (A : List (Int × Int)) (p3 : Option Addr) (c3 : Nat), k + gk = m ∧ s11 = .int .i64 (k : Int) ∧ s8 = .int .i64 ((Q + q : Nat) : Int) ∧ Q + q ≤ l.length ∧ Hid (A.length = k) ∧ Hid (PSt w2 gx (.slice p3 k c3) A wr) ∧ Hid (comb A q (sglsR gk (l.drop (Q + q))) = Y))
  case atStart => exact ⟨0, 0, [], none, 0, by omega, rfl, rfl, by omega, rfl, HPS.out, by unfold Hid; rw [comb_nil]; exact HY.out⟩
  case round =>
    obtain ⟨k, q, A, p3, c3, hk, rfl, rfl, hq, HAL, HST, HCM⟩ := hrel
    have HBI : Hid (Below gx w2 wr) := by have := HST.out.2.2.2.2.2; rw [hgx] at this; exact this
    have HX4 : Hid (BxA wr g0 0 0 (.slice none 0 0)) := HX2.out.under (by rw [hgx]; exact HBI.out)
    have HBR : Hid (Below g0 w wr) := HB2.out.trans (HBI.out.mono (by omega))
    have hwr : gx ≤ wr.heap.size := by have := HBI.out.size; omega
    clear HPS
    cases gk with
    | zero =>
      obtain rfl : k = m := by omega
      have HE : Hid (R = (⟨7, 0, A⟩, ((Q + q : Nat) : Int), 0)) := by
        unfold Hid
        have : Y = (0, A, q) := by rw [← HCM.out]; unfold sglsR comb; simp
        rw [HRE.out, this]
        rfl
      obtain ⟨x0, x1, x2, -⟩ := HST.out.1.facts
      obtain ⟨e0, e1, e2, f0, f1, f2⟩ := HX4.out.facts
      have hrow := World.ownsRow.lt HST.out.2.2.1
      have hown := own_same (w' := setBxA wr g0 7 0 (.slice p3 k c3)) HST.out.2.2.1 (fun b hb _ => setA_block _ _ _ _ _ _ (by omega))
      have hrw := AOwn.rw3 hown (fun x hx => by obtain ⟨p, hp, rfl⟩ := List.mem_map.1 hx; exact HST.out.2.2.2.1 p hp)
      have HRW : Hid (Rw3 (setBxA wr g0 7 0 (.slice p3 k c3)) (.slice p3 k c3) (A.map elOf)) := hrw
      have HROW : Hid (∀ x, p3 = some x → g0 ≤ x.block) := fun x hx => by
        subst hx
        have := (hrow x.block rfl).1
        omega
      clear HCM HRE hown hrw hrow
      go_wp2_with fail
      try simp only [Exit.inBlock, Exit.then]
      refine bodyPost_ret (results_a3 rfl _ _ g0 7 0 (.slice p3 k c3) rfl (HX4.out.set 7 0 _)) rfl ?_
      rw [HE.out]
      refine ⟨.slice p3 k c3, rfl, HRW.out, ⟨p3, c3, by dsimp only; rw [HAL.out], fun x hx => by rw [hgd]; exact HROW.out x hx⟩, ?_⟩
      rw [hgd]
      exact Below.setA HBR.out (Nat.le_refl _) _ _ _
    | succ gk' =>
      have hkm : (k : Int) < (m : Int) := by omega
      obtain ⟨N, hN⟩ : ∃ N, N = Q + q := ⟨_, rfl⟩
      have HNN : Hid (N = Q + q) := hN
      rw [← hN] at hq HCM ⊢
      clear hN
      have HVR : Hid (By wr (.slice (some ⟨b, off, none⟩) l.length cap) l) := HV2.out.under (by rw [hgx]; exact HBI.out)
      obtain ⟨S, hS⟩ : ∃ S, sglR (l.drop N) = S := ⟨_, rfl⟩
      have h0N : (l.drop N).getD 0 0 = l.getD N 0 := by simp [List.getD]
      have hdN : (l.drop N).length = l.length - N := by simp
      by_cases h : N < l.length ∧ l.getD N 0 = 23
      · obtain ⟨hn1, hn2⟩ := h
        have hs23 := sgl_23 (l := l.drop N) (by omega) (by rw [h0N]; exact hn2)
        have HE : Hid (R = (Ar.zero, 0, 4)) := by
          unfold Hid
          have : Y = (4, [], 0) := by rw [← HCM.out, comb_bad _ _ _ _ (by rw [hs23]; decide), hs23]; rfl
          rw [HRE.out, this]
          rfl
        obtain ⟨b', off', he, hlt', hcell'⟩ := HVR.out.at N hn1
        simp only [Option.some.injEq, Addr.mk.injEq, and_true] at he
        obtain ⟨rfl, rfl⟩ := he
        have hczN := hcell' N hn1
        rw [hn2] at hczN
        have hni : (N : Int) < (l.length : Int) := by omega
        have hnc : (N : Int) < (cap : Int) := by omega
        obtain ⟨e0, e1, e2, f0, f1, f2⟩ := HX4.out.facts
        clear HCM HRE hs23 hcell' hS
        go_wp2_with fail
        try simp only [Exit.inBlock, Exit.then]
        refine bodyPost_ret (results_a3 rfl _ _ g0 0 0 (.slice none 0 0) rfl (HX4.out.set 0 0 _)) rfl ?_
        rw [HE.out]
        refine GetPost.bad ?_
        rw [hgd]
        exact Below.setA HBR.out (Nat.le_refl _) _ _ _
      have HG : Hid (Calls Tryd.prog 16 #[.slice (some ⟨b, off, none⟩) l.length cap, .int .i64 (N : Int)] wr (SgPost wr N S)) := by
        have := rget_sgl wr _ l N HVR.out hq h
        rw [hS] at this
        exact this
      have hsr := @sgl_read (l.drop N)
      have hsb := sgl_badE (l.drop N)
      rw [hS] at hsr hsb
      have HSS : Hid (sglR (l.drop N) = S) := hS
      have hcase : (∃ x : Int, (N : Int) < (l.length : Int) ∧ (N : Int) < (cap : Int) ∧ wr.cell? ⟨b, off + N, none⟩ = some (.int .u8 x) ∧ (x == 23) = false) ∨ ¬ (N : Int) < (l.length : Int) := by
        by_cases hn1 : N < l.length
        · left
          obtain ⟨b', off', he, hlt', hcell'⟩ := HVR.out.at N hn1
          simp only [Option.some.injEq, Addr.mk.injEq, and_true] at he
          obtain ⟨rfl, rfl⟩ := he
          refine ⟨_, by omega, by omega, hcell' N hn1, ?_⟩
          simp only [beq_eq_false_iff_ne, ne_eq]
          intro h3
          exact h ⟨hn1, UInt8.toNat_inj.1 (by show (l.getD N 0).toNat = 23; omega)⟩
        · right; omega
      clear hS h hcz2 h0N
      by_cases hse : S.e = 0
      · obtain ⟨s1, s2, s3, s4⟩ := hsr hse
        obtain ⟨se, st, sn, sk⟩ := S
        dsimp only at hse s1 s2 s3
        subst hse
        have HFA : Hid (El.fit (elS (st, sn))) := by
          unfold Hid elS El.fit okN1 at *
          dsimp only
          split at s3 <;> simp at s3 <;> omega
        have HCM2 : Hid (comb (A ++ [(st, sn)]) (q + sk) (sglsR gk' (l.drop (N + sk))) = Y) := by
          unfold Hid
          rw [← HCM.out, comb_step _ _ _ _ (by rw [HSS.out]), HSS.out, List.drop_drop]
        have hq2 : N + sk ≤ l.length := by omega
        have HNK : Hid (N + sk = Q + (q + sk)) := by have := HNN.out; unfold Hid; omega
        have hown := HST.out.2.2.1
        unfold AOwn at hown
        rw [List.length_map, HAL.out, hgx] at hown
        have HOW : Hid (wr.ownsRow gx 25 3 (.slice p3 k c3) k (cl3 (A.map elS))) := hown
        clear HCM HSS hsr hsb hown s1 s2 s3 s4
        rcases hcase with ⟨x, y1, y2, y3, y4⟩ | y1
        all_goals
          go_wp2_with fail
          refine HG.out.mono ?_
          rintro e w5 ⟨rfl, b5⟩
          dsimp only
          rw [if_pos rfl]
          have ba5 := (Below.refl w5.heap.size w5).alloc (Nat.le_refl _) (.cells #[.int .i64 st, .int .i64 sn, .slice none 0 0] 25)
          have HB6 : Hid (Below wr.heap.size wr (w5.alloc (.cells #[.int .i64 st, .int .i64 sn, .slice none 0 0] 25))) := b5.trans (ba5.mono b5.size)
          have HBA : Hid (BxA (w5.alloc (.cells #[.int .i64 st, .int .i64 sn, .slice none 0 0] 25)) w5.heap.size st sn (.slice none 0 0)) := BxA.new _ _ _ _
          clear ba5 b5
          unfold agV
          go_upto_if 100 with fail
          generalize hw6 : w5.alloc (.cells #[.int .i64 st, .int .i64 sn, .slice none 0 0] 25) = w6 at *
          generalize hg6 : w5.heap.size = g6 at *
          obtain ⟨z0, z1, z2, -⟩ := HBA.out.facts
          obtain ⟨j0, j1, j2, j3, j4, j5⟩ := (HST.out.1.under HB6.out).facts
          have HO6 : Hid ((w6.alloc (.cells #[.int .i64 st, .int .i64 sn, .slice none 0 0] 25)).ownsRow gx 25 3 (.slice p3 k c3) k (cl3 (A.map elS))) := World.ownsRow.alloc (own_same HOW.out (fun b _ hlt => HB6.out.block b hlt)) _
          have hg6x : gx ≤ w6.heap.size := by have := HB6.out.size; omega
          have hk6 : k < 40 := by omega
          go_wp2_with (first | (at_builtin; go_loud (refine wpList_append_own_at _ rfl _ _ 23 rfl gx 25 i0 (.agg #[.int .i64 0, .int .i64 0, .slice none 0 0]) 3 40 Tryd.underlying23 hi hz0 hz1 hz2 rfl (by decide) (.slice p3 k c3) k (cl3 (A.map elS)) rfl HO6.out ⟨w6.heap.size, 0, none⟩ 1 1 [.int .i64 st, .int .i64 sn, .slice none 0 0] rfl rfl (World.news_of_block (heap_alloc_new w6 _)) (fun u hu => by simp at hu; rcases hu with rfl | rfl | rfl <;> rfl) (by simp only [maxLen]; omega) (by omega) (by simp; omega) ?_; intro v7 w7 hown7 hgr7 hnil7 hloc7; obtain ⟨y4, y5, y6, y7, y8, y9⟩ := (p_box HST.out HB6.out hgr7).facts; obtain ⟨p5, c5, rfl, hc5, hc6⟩ := own_shape hown7; have HS7 : Hid (PSt w2 gx (.slice p5 (k + 1) c5) (A ++ [(st, sn)]) (w7.setCell ⟨gx, 2, none⟩ (.slice p5 (k + 1) c5))) := (p_push1 (a := (st, sn)) HST.out HB6.out HFA.out (by rw [HAL.out, hgx]; exact hown7) hgr7 hloc7); clear hown7 hgr7 hnil7 hloc7)) | fail)
          go_roundg gk'
          case measure => omega
          case rel => exact ⟨k + 1, q + sk, A ++ [(st, sn)], p5, c5, by omega, by go_num, by rw [← HNK.out, Int.natCast_add], by have := HNK.out; omega, by unfold Hid; simp [HAL.out], HS7, by rw [← HNK.out]; exact HCM2⟩
      · have HE : Hid (R = (Ar.zero, 0, S.e)) := by
          unfold Hid
          have : Y = (S.e, [], 0) := by rw [← HCM.out, comb_bad _ _ _ _ (by rw [HSS.out]; exact hse), HSS.out]
          rw [HRE.out, this]
          dsimp only
          rw [if_neg hse]
        rw [hsb hse] at HG
        have hbe : (S.e != 0) = true := by simp [hse]
        have HPE : Hid (S.e ≠ 0) := hse
        obtain ⟨pe, hpe2⟩ : ∃ pe, S.e = pe := ⟨_, rfl⟩
        rw [hpe2] at HG hbe HE HPE
        clear HCM HSS hsr hsb hse hpe2 HRE
        rcases hcase with ⟨x, y1, y2, y3, y4⟩ | y1
        all_goals
          go_wp2_with fail
          refine HG.out.mono ?_
          rintro e w5 ⟨rfl, b5⟩
          have hif : (if (Rd.bad pe).e = 0 then ((N + (Rd.bad pe).k : Nat) : Int) else 0) = 0 := if_neg HPE.out
          rw [hif]
          dsimp only [Rd.bad]
          have ba5 := (Below.refl w5.heap.size w5).alloc (Nat.le_refl _) (.cells #[.int .i64 0, .int .i64 0, .slice none 0 0] 25)
          have HX6 : Hid (BxA (w5.alloc (.cells #[.int .i64 0, .int .i64 0, .slice none 0 0] 25)) g0 0 0 (.slice none 0 0)) := (HX4.out.under b5).under ba5
          have HB6 : Hid (Below g0 w (w5.alloc (.cells #[.int .i64 0, .int .i64 0, .slice none 0 0] 25))) := (HBR.out.trans (b5.mono (by omega))).trans (ba5.mono (by have := b5.size; omega))
          clear b5 ba5 hif
          obtain ⟨e0, e1, e2, f0, f1, f2⟩ := HX6.out.facts
          unfold agV
          go_wp2_with fail
          try simp only [Exit.inBlock, Exit.then]
          refine bodyPost_ret (results_a3 rfl _ _ g0 0 0 (.slice none 0 0) rfl (HX6.out.set 0 0 _)) rfl ?_
          rw [HE.out]
          refine GetPost.bad ?_
          rw [hgd]
          exact Below.setA HB6.out (Nat.le_refl _) _ _ _
end Go.Proofs.YtgjjeghnfhjnnaaDoor


/-
  relictref06.Get: just getS, from any place.
-/
namespace Go.Proofs.YtgjjeghnfhjnnaaDoor
open Go.RowKit
set_option linter.unusedVariables false
set_option linter.unusedSimpArgs false

set_option maxRecDepth 100000 in
set_option maxHeartbeats 1000000 in
theorem rget_any (w : World) (v : Value) (l : List UInt8) (at' : Int) (hv : By w v l) :
    Calls Tryd.prog 16 #[v, .int .i64 at'] w fun e w' => GetPost w (getS l at') e w' := by
  by_cases h1 : at' < 0 ∨ (l.length : Int) < at'
  · have hE : getS l at' = (Ar.zero, 0, 1) := by unfold getS; rw [if_pos h1]
    rw [hE]
    obtain ⟨av, cap, rfl, hc1, hc2, hc3⟩ := hv.shape
    have bA := (Below.refl w.heap.size w).alloc (Nat.le_refl _) (.cells #[.int .i64 0, .int .i64 0, .slice none 0 0] 25)
    have HB1 : Hid (Below w.heap.size w (w.alloc (.cells #[.int .i64 0, .int .i64 0, .slice none 0 0] 25))) := bA
    have HX1 : Hid (BxA (w.alloc (.cells #[.int .i64 0, .int .i64 0, .slice none 0 0] 25)) w.heap.size 0 0 (.slice none 0 0)) := BxA.new w 0 0 _
    have h1' : at' < 0 ∨ (¬ at' < 0 ∧ (l.length : Int) < at') := by omega
    clear bA hv hE h1
    rcases h1' with h | ⟨h, h'⟩
    all_goals
      go_enter Tryd.func16, Tryd.ntmps16
      go_wp2_with fail
      refine bodyPost_ret (results_a3 rfl _ _ w.heap.size 0 0 (.slice none 0 0) rfl HX1.out) rfl ?_
      exact GetPost.bad HB1.out
  · obtain ⟨p, rfl⟩ : ∃ p : Nat, at' = (p : Int) := ⟨at'.toNat, by omega⟩
    have hp : p ≤ l.length := by omega
    by_cases h23 : p < l.length ∧ l.getD p 0 = 23
    · exact rget_list w v l p hv h23.1 h23.2
    · exact (rget_sgl w v l p hv hp h23).mono (fun e w' h => get_of_sgl hp h23 h)
end Go.Proofs.YtgjjeghnfhjnnaaDoor
