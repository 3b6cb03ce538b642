
/-
  relictlaw08: awake, CodeOne.
-/
import Derived.Test.YtgjjeghnfhjnnaaDoorZCdB
import Derived.Test.YtgjjeghnfhjnnaaDoorZCdC
import Derived.Test.YtgjjeghnfhjnnaaDoorCpL
import Derived.Test.YtgjjeghnfhjnnaaDoorOpRefD
namespace Go.Proofs.YtgjjeghnfhjnnaaDoor
open Go.RowKit
set_option linter.unusedVariables false
set_option linter.unusedSimpArgs false

theorem is_end1 (w : World) : Is (w.alloc (.cells #[.int .i64 3, .slice none 0 0] 43)) (.slice (some ⟨w.heap.size, 0, none⟩) 1 1) [⟨3, []⟩] := by
  refine ⟨some ⟨w.heap.size, 0, none⟩, 1, [⟨3, none, 0, 0⟩], rfl, rfl, Nat.le_refl _, by decide, fun e => (by cases e), fun _ => ⟨w.heap.size, 0, rfl, by simp, fun i hi => ?_⟩, fun i hi hi' => ?_⟩
  · have : i = 0 := by simpa using hi
    subst this
    refine ⟨?_, ?_⟩ <;> (rw [World.cell?_alloc_mark]; rfl)
  · have : i = 0 := by simpa using hi
    subst this
    exact ⟨rfl, none, 0, [], rfl, rfl, Rw3.nil _, fun i h => absurd h (by simp)⟩
theorem fits_e3 : fitsI 3 [] = true := by decide +kernel
theorem ref_e1 : refS [⟨3, []⟩] = 0 := by
  unfold refS endsS
  simp [In.fits, fits_e3]
theorem codeB_e1 : codeB [⟨3, []⟩] = [3] := by decide +kernel
theorem ins_e3 : insR [3] = (0, ⟨3, []⟩, 1) := by
  unfold insR
  have h1 : nmS ((([3] : List UInt8).getD 0 0).toNat : Int) ≠ [] := by decide +kernel
  have h2 : (sigS ((([3] : List UInt8).getD 0 0).toNat : Int)).length = 0 := by decide +kernel
  rw [if_neg (by simp), if_neg h1, h2]
  unfold argsR
  rw [if_neg (by simp), if_pos (by exact fits_e3)]
  rfl
theorem code_e1 (m : Nat) : codeR (m + 1) [3] = (0, [⟨3, []⟩], 0) := by
  rw [codeR, ins_e3]
  simp

set_option maxRecDepth 100000 in
set_option maxHeartbeats 2000000 in
theorem awake8 (w : World) (hN : Nam w) (hS : Spn w) : Calls Tryd.prog 26 #[] w (RBool true w) := by
  have HN : Hid (Nam w) := hN
  have HS : Hid (Spn w) := hS
  have b0 := box_below w #[.int .i64 3, .slice none 0 0] 43
  have HB0 : Hid (Below w.heap.size w (w.alloc (.cells #[.int .i64 3, .slice none 0 0] 43))) := b0
  have HP : Hid (Calls Tryd.prog 29 #[.slice (some ⟨w.heap.size, 0, none⟩) 1 1] (w.alloc (.cells #[.int .i64 3, .slice none 0 0] 43)) (CPostR (w.alloc (.cells #[.int .i64 3, .slice none 0 0] 43)) 0 [3])) := by
    have := codePut_any _ _ _ (hS.under b0) (is_end1 w) (by rw [codeB_e1]; decide)
    unfold CPost at this
    rw [ref_e1, codeB_e1] at this
    exact this
  clear hN hS b0
  go_enter Tryd.func26, Tryd.ntmps26
  go_wp2_with fail
  refine HP.out.mono ?_
  rintro e w1 ⟨v1, rfl, y1, b1⟩
  rw [if_pos rfl] at y1
  have HB1 : Hid (Below w.heap.size w w1) := HB0.out.trans (b1.mono HB0.out.size)
  obtain ⟨a1, c1, rfl, -⟩ := y1.shape
  have HY1 : Hid (By w1 (.slice a1 1 c1) [3]) := y1
  have b2 := box_below w1 #[.int .u8 3] 5
  have HB2 : Hid (Below w.heap.size w (w1.alloc (.cells #[.int .u8 3] 5))) := HB1.out.trans (b2.mono HB1.out.size)
  have HG : Hid (Calls Tryd.prog 27 #[.slice (some ⟨w1.heap.size, 0, none⟩) 1 1] (w1.alloc (.cells #[.int .u8 3] 5)) (CodePost (w1.alloc (.cells #[.int .u8 3] 5)) (0, [⟨3, []⟩], 0))) := by
    have := codeGet_any _ _ _ (HN.out.under HB2.out) (HS.out.under HB2.out) (By.lit w1 3 (by decide) (by decide))
    rw [show ([ub8 3] : List UInt8) = [3] by decide +kernel, code_e1 399] at this
    exact this
  clear y1 b1 b2 HP HB0
  dsimp only [List.length_cons, List.length_nil]
  go_wp2_with fail
  refine HG.out.mono ?_
  rintro e w3 ⟨sl, rfl, hi, b3⟩
  obtain ⟨a3, c3, rfl, -⟩ := hi.shape
  have HB3 : Hid (Below w.heap.size w w3) := HB2.out.trans (b3.mono HB2.out.size)
  have t1 := ((HY1.out.under (box_below w1 #[.int .u8 3] 5)).under b3).text
  clear hi b3 HG HB2
  dsimp only [List.length_cons, List.length_nil]
  go_wp2_with fail
  go_ret
  exact ⟨rfl, HB3.out⟩

set_option maxRecDepth 100000 in
set_option maxHeartbeats 4000000 in
theorem codeOne_walk (v : Value) (l : List UInt8) (w : World) (hN : Nam w) (hS : Spn w) (hv : By w v l) :
    Calls Tryd.prog 5 #[v] w (RBool true w) := by
  obtain ⟨av, cap, rfl, hc1, hc2, hc3⟩ := hv.shape
  have HV : Hid (By w (.slice av l.length cap) l) := hv
  have HAW : Hid (∀ W, Below w.heap.size w W → Calls Tryd.prog 26 #[] W (RBool true W)) := fun W hW => awake8 W (hN.under hW) (hS.under hW)
  have HN : Hid (Nam w) := hN
  have HS : Hid (Spn w) := hS
  clear hv hN hS
  by_cases hbig : (5000 : Int) < (l.length : Int)
  · go_enter Tryd.func5, Tryd.ntmps5
    go_wp2_with fail
    refine (HAW.out _ (Below.refl _ _)).mono ?_
    rintro e w1 ⟨rfl, b1⟩
    have HB1 : Hid (Below w.heap.size w w1) := b1
    clear b1
    go_wp2_with fail
    go_ret
    exact ⟨rfl, HB1.out⟩
  obtain ⟨R, hR⟩ : ∃ R, codeR 400 l = R := ⟨_, rfl⟩
  have hrd := code_read 400 l
  have hwr := code_wrong 400 l
  rw [hR] at hrd hwr
  obtain ⟨re, L, rn⟩ := R
  dsimp only at hrd hwr
  have HR : Hid (codeR 400 l = (re, L, rn)) := hR
  clear hR
  go_enter Tryd.func5, Tryd.ntmps5
  go_wp2_with fail
  refine (bytes_any _ l _ HV.out (by omega)).mono ?_
  rintro e w1 ⟨v1, rfl, o1, b1⟩
  have HB1 : Hid (Below w.heap.size w w1) := b1
  have HG : Hid (Calls Tryd.prog 27 #[v1] w1 (CodePost w1 (re, L, rn))) := by
    have := codeGet_any w1 v1 l (HN.out.under b1) (HS.out.under b1) o1.by
    rw [HR.out] at this
    exact this
  clear o1 b1 HR
  go_wp2_with fail
  refine HG.out.mono ?_
  rintro e w2 ⟨sl, rfl, hi, b2⟩
  have HB2 : Hid (Below w.heap.size w w2) := HB1.out.trans (b2.mono HB1.out.size)
  dsimp only at hi ⊢
  clear HG b2 HB1
  by_cases h0 : re = 0
  case neg =>
    obtain ⟨hL, hn⟩ := hwr h0
    subst hL
    obtain ⟨a3, c3, rfl, -⟩ := hi.shape
    have hreb : (re != 0) = true := by simp [h0]
    have hn1 : (rn : Int) ≤ (l.length : Int) := by omega
    have hn2 : (0 : Int) ≤ (rn : Int) := by omega
    clear hrd hwr hi h0 hn
    dsimp only [List.length_nil]
    go_wp2_with fail
    refine (HAW.out _ HB2.out).mono ?_
    rintro e w3 ⟨rfl, b3⟩
    have HB3 : Hid (Below w.heap.size w w3) := HB2.out.trans (b3.mono HB2.out.size)
    clear b3
    go_wp2_with fail
    go_ret
    exact ⟨rfl, HB3.out⟩
  case pos =>
  subst h0
  obtain ⟨hl4, hrn, hcb, hfit, A, z, hAz, hz3, hA3⟩ := hrd rfl
  subst hrn
  have hends : endsS L = true := by rw [hAz]; exact ends_of hz3 hA3
  have href : refS L = 0 := by
    unfold refS
    rw [if_neg (by omega), if_neg, if_pos hends]
    rw [Bool.not_eq_false, List.all_eq_true]
    exact hfit
  have HOPS : Hid (∀ k (h : k < L.length), (k + 1 = L.length → L[k].op = 3) ∧ (k + 1 ≠ L.length → L[k].op ≠ 3)) := by
    intro k hk
    subst hAz
    rw [List.length_append] at hk ⊢
    constructor
    · intro h
      have : k = A.length := by simp at h; omega
      subst this
      simpa using hz3
    · intro h
      have hkA : k < A.length := by simp at h hk; omega
      rw [List.getElem_append_left hkA]
      exact hA3 _ (List.getElem_mem hkA)
  have HFIT : Hid (∀ k (h : k < L.length), fitsI L[k].op L[k].K = true) := fun k hk => hfit _ (List.getElem_mem hk)
  have HPUT : Hid (Calls Tryd.prog 29 #[sl] w2 (CPostR w2 0 l)) := by
    have := codePut_any sl L w2 (HS.out.under HB2.out) hi (by rw [hcb]; omega)
    unfold CPost at this
    rw [href, hcb] at this
    exact this
  obtain ⟨a3, c3, rfl, hd1, hd2, hd3⟩ := hi.shape
  have HI : Hid (Is w2 (.slice a3 L.length c3) L) := hi
  have hl4i : (L.length : Int) ≤ 400 := by omega
  clear hi hcb hfit hAz hz3 hA3 hends href hrd hwr
  go_wp2_with fail
  refine HPUT.out.mono ?_
  rintro e w3 ⟨vp, rfl, y3, b3⟩
  rw [if_pos rfl] at y3
  obtain ⟨ap, cp, rfl, -⟩ := y3.shape
  have HY3 : Hid (By w3 (.slice ap l.length cp) l) := y3
  have HI3 : Hid (Is w3 (.slice a3 L.length c3) L) := HI.out.under b3
  have HB3 : Hid (Below w.heap.size w w3) := HB2.out.trans (b3.mono HB2.out.size)
  clear y3 b3 HPUT HI HB2
  go_wp2_with fail
  go_loopg [8] L.length (fun gk s8 wr => ∃ k : Nat, k + gk = L.length ∧ s8 = .int .i64 (k : Int) ∧ Hid (Below w3.heap.size w3 wr))
  case atStart => exact ⟨0, by omega, rfl, Below.refl _ _⟩
  case round =>
    obtain ⟨k, hk, rfl, HBK⟩ := hrel
    have HBR : Hid (Below w.heap.size w wr) := HB3.out.trans (HBK.out.mono HB3.out.size)
    cases gk with
    | zero =>
      obtain rfl : k = L.length := by omega
      have t1 := (HY3.out.under HBK.out).text
      have t2 := (HV.out.under HBR.out).text
      clear HOPS HFIT
      go_wp2_with fail
      refine (HAW.out _ HBR.out).mono ?_
      rintro e w4 ⟨rfl, b4⟩
      have HB4 : Hid (Below w.heap.size w w4) := HBR.out.trans (b4.mono HBR.out.size)
      clear b4 t1 t2
      go_wp2_with fail
      go_ret
      exact ⟨rfl, HB4.out⟩
    | succ g =>
      have hkl : k < L.length := by omega
      have hki : (k : Int) < (L.length : Int) := by omega
      have hkc : (k : Int) < (c3 : Int) := by omega
      obtain ⟨b, off, p, m, c, rfl, hlt, ⟨a0, a1⟩, hg⟩ := HI3.out.at k hkl
      obtain ⟨hop1, hop2⟩ := HOPS.out k hkl
      have hfk := HFIT.out k hkl
      obtain ⟨I, hI⟩ : ∃ I, L[k] = I := ⟨_, rfl⟩
      rw [hI] at a0 hg hop1 hop2 hfk
      obtain ⟨op, K⟩ := I
      dsimp only at a0 hg hop1 hop2 hfk
      have HFT : Hid (Calls Tryd.prog 30 #[.agg #[.int .i64 op, .slice p m c]] wr (RBool true wr)) := by
        have := rFits_any op K _ wr (hg.under HBK.out)
        rw [hfk] at this
        exact this
      have HCE : Hid (∀ W, Below w3.heap.size w3 W → W.cell? ⟨b, off + k * 2, none⟩ = some (.int .i64 op) ∧ W.cell? ⟨b, off + k * 2 + 1, none⟩ = some (.slice p m c)) := fun W hW => ⟨by rw [hW.cell (p := ⟨b, off + k * 2, none⟩) hlt]; exact a0, by rw [hW.cell (p := ⟨b, off + k * 2 + 1, none⟩) hlt]; exact a1⟩
      clear a0 a1 hg hfk hI hlt
      obtain ⟨a0, a1⟩ := HCE.out wr HBK.out
      go_wp2_with fail
      refine HFT.out.mono ?_
      rintro e w4 ⟨rfl, b4⟩
      have HB4 : Hid (Below w3.heap.size w3 w4) := HBK.out.trans (b4.mono HBK.out.size)
      clear a0 a1 HFT b4
      obtain ⟨a0, a1⟩ := HCE.out w4 HB4.out
      by_cases hlast : k + 1 = L.length
      · have h3 := hop1 hlast
        subst h3
        have hkb : ((k : Int) == (L.length : Int) - 1) = true := by simp; omega
        clear hop1 hop2 hlast
        go_wp2_with fail
        go_roundg g
        case measure => omega
        case rel => exact ⟨k + 1, by omega, by go_num, HB4⟩
      · have h3 := hop2 hlast
        have h3b : (op == 3) = false := by simp [h3]
        have hkb : ((k : Int) == (L.length : Int) - 1) = false := by simp; omega
        clear hop1 hop2 hlast h3
        go_wp2_with fail
        go_roundg g
        case measure => omega
        case rel => exact ⟨k + 1, by omega, by go_num, HB4⟩
end Go.Proofs.YtgjjeghnfhjnnaaDoor
