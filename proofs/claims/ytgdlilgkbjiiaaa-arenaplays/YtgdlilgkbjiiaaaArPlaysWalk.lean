
/-
  relictlaw11.ArenaPlays.
-/
import Derived.Test.YtgdlilgkbjiiaaaArOp
import Derived.Test.YtgdlilgkbjiiaaaPlaceB
import Derived.Deep.LoopGhost
import Derived.BigQuiet
import Derived.Deep.RegionHeld3
namespace Go.Proofs.Ytgdlilgkbjiiaaa
open Go.RowKit
set_option linter.unusedVariables false
set_option linter.unusedSimpArgs false

/-- A call's box. -/
def Bo (w : World) (g : Nat) (k n x : Int) : Prop := w.heap[g]? = some (.cells #[.int .i64 k, .int .i64 n, .int .u64 x] 29 (0, 0))
theorem Bo.facts {w : World} {g : Nat} {k n x : Int} (h : Bo w g k n x) : w.cell? ⟨g, 0, none⟩ = some (.int .i64 k) ∧ w.cell? ⟨g, 1, none⟩ = some (.int .i64 n) ∧ w.cell? ⟨g, 2, none⟩ = some (.int .u64 x) := by
  unfold Bo at h
  refine ⟨?_, ?_, ?_⟩ <;> simp [World.cell?, h]

set_option maxRecDepth 100000 in
set_option maxHeartbeats 4000000 in
theorem arenaPlays_walk (size : Int) (v : Value) (L : List Cl) (w : World) (hs : Sc w v L) (h1 : -9223372036854775808 ≤ size) (h2 : size ≤ 9223372036854775807) :
    Calls Try.prog 3 #[.int .i64 size, v] w fun e w' => e = .returned (.bool true) ∧ Below w.heap.size w w' := by
  obtain ⟨pa, ca, rfl, hca1, hca2⟩ := hs.shape
  have HS : Hid (Sc w (.slice pa L.length ca) L) := hs
  obtain ⟨S, hS⟩ : ∃ S, S = cutA size := ⟨_, rfl⟩
  have HN : Hid (∀ W, Calls Try.prog 6 #[.int .i64 size] W fun e w' => NewA S W e w') := fun W => by rw [hS]; exact anew_any size W h1 h2
  have HM : Hid (∀ W, Calls Try.prog 7 #[.int .i64 size] W fun e w' => NewR S W e w') := fun W => by rw [hS]; exact rnew_any size W h1 h2
  clear hs h1 h2 hS
  go_enter Try.func3, Try.ntmps3
  go_wp2_with fail
  refine (HN.out _).mono ?_
  rintro e w0 ⟨p, b, rfl, hb1, hb2, ha, hb⟩
  have HA : Hid (Ar w0 p b [] S) := ha
  have HB : Hid (Below w.heap.size w w0) := hb
  clear ha hb
  go_wp2_with fail
  refine (HM.out _).mono ?_
  rintro e w1 ⟨rfl, hr, hb3⟩
  obtain ⟨q, hq⟩ : ∃ q, q = w0.heap.size := ⟨_, rfl⟩
  rw [← hq] at hr ⊢
  have HR0 : Hid (Ra w1 q (q + 1) (.slice none 0 0) [] S) := hr
  have HA0 : Hid (Ar w1 p b [] S) := HA.out.under hb3
  have HB0 : Hid (Below w.heap.size w w1) := HB.out.trans (hb3.mono HB.out.size)
  have HO : Hid (w.heap.size ≤ b ∧ b < p ∧ p < q ∧ w.heap.size ≤ p ∧ w.heap.size ≤ q) := ⟨hb1, hb2, by rw [hq]; exact HA.out.ltp, by omega, by have := HA.out.ltp; omega⟩
  clear hr hb1 hb2 hb3 hq HA HB HN HM
  go_wp2_with fail
  go_loopg [7] 60 (fun gk si wr => ∃ (i : Nat) (W : List Int) (v : Value), i + gk = 60 ∧ si = .int .i64 (i : Int) ∧ Ar wr p b W S ∧ Ra wr q (q + 1) v W S ∧ Below w.heap.size w wr)
  case atStart => exact ⟨0, [], _, rfl, rfl, HA0.out, HR0.out, HB0.out⟩
  case round =>
    obtain ⟨i, W, vr, hi, rfl, hAr, hRa, hBr⟩ := hrel
    have HAR : Hid (Ar wr p b W S) := hAr
    have HRA : Hid (Ra wr q (q + 1) vr W S) := hRa
    have HBR : Hid (Below w.heap.size w wr) := hBr
    clear hAr hRa hBr HA0 HR0 HB0
    by_cases hl : i < L.length ∧ i < 60
    · obtain ⟨hl1, hl2⟩ := hl
      obtain ⟨gko, rfl⟩ : ∃ g, gk = g + 1 := ⟨gk - 1, by omega⟩
      have hl1' : (i : Int) < (L.length : Int) := by omega
      have hl2' : (i : Int) < 60 := by omega
      obtain ⟨b1, off1, ⟨k, n, x⟩, rfl, ⟨hk, hn, hx⟩, c0, c1, c2⟩ := (HS.out.under (HBR.out)).at i hl1
      dsimp only at hk hn hx c0 c1 c2
      have HP : Hid (∀ W, Calls Try.prog 8 #[.int .i64 k, .int .i64 4] W fun e w' => e = .returned (.int .i64 (k % 4)) ∧ W = w') := fun W => place_any k 4 W (by decide) (by decide) hk.1 hk.2
      clear hl1 hl2
      go_wp2_with fail
      obtain ⟨go, hgo⟩ : ∃ go, go = wr.heap.size := ⟨_, rfl⟩
      have hal : Below wr.heap.size wr (wr.alloc (.cells #[.int .i64 k, .int .i64 n, .int .u64 x] 29)) := (Below.refl _ _).alloc (Nat.le_refl _) _
      have HA1 : Hid (Ar (wr.alloc (.cells #[.int .i64 k, .int .i64 n, .int .u64 x] 29)) p b W S) := HAR.out.under hal
      have HR1 : Hid (Ra (wr.alloc (.cells #[.int .i64 k, .int .i64 n, .int .u64 x] 29)) q (q + 1) vr W S) := HRA.out.below hal
      have HB1 : Hid (Below w.heap.size w (wr.alloc (.cells #[.int .i64 k, .int .i64 n, .int .u64 x] 29))) := HBR.out.trans (hal.mono HBR.out.size)
      have HG1 : Hid (Bo (wr.alloc (.cells #[.int .i64 k, .int .i64 n, .int .u64 x] 29)) wr.heap.size k n x) := heap_alloc_new _ _
      have HGO : Hid (q < wr.heap.size ∧ vr.ownBlock ≠ some wr.heap.size ∧ wr.heap.size < (wr.alloc (.cells #[.int .i64 k, .int .i64 n, .int .u64 x] 29)).heap.size) := ⟨Nat.lt_of_lt_of_le HRA.out.qb HRA.out.bs, fun e => Nat.lt_irrefl _ (HRA.out.lt e), by simp⟩
      rw [← hgo] at HG1 HGO ⊢
      clear hal HAR HRA HBR c0 c1 c2 hgo
      generalize wr.alloc (.cells #[.int .i64 k, .int .i64 n, .int .u64 x] 29) = wn at *
      obtain ⟨d0, d1, d2⟩ := HG1.out.facts
      refine (HP.out _).mono ?_
      rintro e w2 ⟨rfl, rfl⟩
      have hk4 : 0 ≤ k % 4 ∧ k % 4 < 4 := by omega
      generalize k % 4 = kk at *
      by_cases hkk : kk < 2
      · have HL1 : Hid (w.heap.size ≤ wn.heap.size) := HB1.out.size
        by_cases hf : 0 ≤ n ∧ n ≤ (S : Int) - (W.length : Int)
        · obtain ⟨mz, rfl⟩ : ∃ mz : Nat, n = (mz : Int) := ⟨n.toNat, by omega⟩
          have hm : mz ≤ S - W.length := by omega
          go_wp2_with fail
          refine (aalloc_yes _ p b S W mz HA1.out hm).mono ?_
          rintro e w2 ⟨rfl, ha2, ho2, -⟩
          have HA2 : Hid (Ar w2 p b (W ++ zq mz) S) := ha2
          have HR2 : Hid (Ra w2 q (q + 1) vr W S) := HR1.out.ot ho2 HO.out.2.2.1
          have HG2 : Hid (Bo w2 go k (mz : Int) x ∧ go < w2.heap.size) := ⟨(ho2.block go HGO.out.2.2 (by have := HGO.out.1; have := HO.out.2.2.1; omega)).trans HG1.out, Nat.lt_of_lt_of_le HGO.out.2.2 ho2.size⟩
          have HB2 : Hid (Below w.heap.size w w2) := HB1.out.trans (ho2.below HL1.out HO.out.2.2.2.1)
          clear ha2 ho2 HA1 HR1 HG1 HB1 d0 d1 d2
          obtain ⟨d0, d1, d2⟩ := HG2.out.1.facts
          have n0 : ((W.length : Int) != (W.length : Int)) = false := by simp
          go_wp2_with fail
          refine (ralloc_yes _ q (q + 1) S vr W mz HR2.out hm).mono ?_
          rintro e w3 ⟨rfl, v', hr3, hb3, hk3⟩
          have HA3 : Hid (Ar w3 p b (W ++ zq mz) S) := HA2.out.below hb3 HO.out.2.2.1 (by have := HO.out; omega)
          have HR3 : Hid (Ra w3 q (q + 1) v' (W ++ zq mz) S) := hr3
          have HG3 : Hid (Bo w3 go k (mz : Int) x) := (hk3 go HG2.out.2 (by have := HGO.out.1; omega) HGO.out.2.1).trans HG2.out.1
          have HB3 : Hid (Below w.heap.size w w3) := HB2.out.trans (hb3.mono HO.out.2.2.2.2)
          clear hr3 hb3 hk3 HA2 HR2 HG2 HB2 d0 d1 d2 hf hm
          obtain ⟨n, hn9⟩ : ∃ n, n = (mz : Int) := ⟨_, rfl⟩
          rw [← hn9] at HG3 ⊢
          clear hn9 hn
          obtain ⟨e0, e1, e2⟩ := HG3.out.facts
          obtain ⟨r0, r1, -⟩ := HR3.out.facts
          obtain ⟨av, cv, rfl⟩ := HR3.out.shape
          have QA : ∀ m, Ar (w3.drewN m) p b (W ++ zq mz) S := fun m => HA3.out.under (below_drewN (Below.refl _ _) m)
          have QR : ∀ m, Ra (w3.drewN m) q (q + 1) (.slice av (List.length (W ++ zq mz)) cv) (W ++ zq mz) S := fun m => HR3.out.below (below_drewN (Below.refl _ _) m)
          obtain ⟨xw, hxw⟩ : ∃ xw, xw = wordS (W ++ zq mz) n := ⟨_, rfl⟩
          obtain ⟨xe, hxe⟩ : ∃ xe, xe = extS (W ++ zq mz) n := ⟨_, rfl⟩
          have Q1 : Hid (∀ m, Calls Try.prog 13 #[.pointer (some ⟨p, 0, none⟩)] (w3.drewN m) fun e w' => e = .returned (.int .i64 (List.length (W ++ zq mz) : Int)) ∧ w' = w3.drewN m) := fun m => (aused_any _ p b S (W ++ zq mz) (QA m)).mono fun e w' h => ⟨h.1, h.2.symm⟩
          have Q2 : Hid (∀ m, Calls Try.prog 14 #[.pointer (some ⟨p, 0, none⟩)] (w3.drewN m) fun e w' => e = .returned (.int .i64 (S : Int)) ∧ w' = w3.drewN m) := fun m => (asize_any _ p b S (W ++ zq mz) (QA m)).mono fun e w' h => ⟨h.1, h.2.symm⟩
          have Q3 : Hid (∀ m, Calls Try.prog 15 #[.pointer (some ⟨p, 0, none⟩), .int .i64 n] (w3.drewN m) fun e w' => e = .returned (.int .u64 xw) ∧ w' = w3.drewN m) := fun m => (aword_any _ p b S (W ++ zq mz) n (QA m)).mono fun e w' h => ⟨by rw [hxw]; exact h.1, h.2.symm⟩
          have Q4 : Hid (∀ m, Calls Try.prog 16 #[.pointer (some ⟨q, 0, none⟩), .int .i64 n] (w3.drewN m) fun e w' => e = .returned (.int .u64 xw) ∧ w' = w3.drewN m) := fun m => (rword_any _ q (q + 1) S _ (W ++ zq mz) n (QR m)).mono fun e w' h => ⟨by rw [hxw]; exact h.1, h.2.symm⟩
          have Q5 : Hid (∀ m, Calls Try.prog 17 #[.pointer (some ⟨p, 0, none⟩), .int .i64 n] (w3.drewN m) fun e w' => e = .returned (.int .i64 xe) ∧ w' = w3.drewN m) := fun m => (aextent_any _ p b S (W ++ zq mz) n (QA m)).mono fun e w' h => ⟨by rw [hxe]; exact h.1, h.2.symm⟩
          have Q6 : Hid (∀ m, Calls Try.prog 18 #[.pointer (some ⟨q, 0, none⟩), .int .i64 n] (w3.drewN m) fun e w' => e = .returned (.int .i64 xe) ∧ w' = w3.drewN m) := fun m => (rextent_any _ q (q + 1) S _ (W ++ zq mz) n (QR m)).mono fun e w' h => ⟨by rw [hxe]; exact h.1, h.2.symm⟩
          have HF : Hid (∀ m, Ar (w3.drewN m) p b (W ++ zq mz) S ∧ Ra (w3.drewN m) q (q + 1) (.slice av (List.length (W ++ zq mz)) cv) (W ++ zq mz) S ∧ Below w.heap.size w (w3.drewN m)) := fun m => ⟨QA m, QR m, below_drewN HB3.out m⟩
          obtain ⟨wl, hwl⟩ : ∃ wl, wl = List.length (W ++ zq mz) := ⟨_, rfl⟩
          rw [← hwl] at Q1 r1 HF
          have n1 : ((wl : Int) != (wl : Int)) = false := by simp
          have n2 : ((S : Int) != (S : Int)) = false := by simp
          have n3 : (xw != xw) = false := by simp
          have n4 : (xe != xe) = false := by simp
          clear QA QR HR3 HA3 HB3 HG3 hxw hxe hwl
          go_wp2_with fail
          go_quiet (first | (go_at_call 13; exact Calls.quiet_of_same (Q1.out _)) | (go_at_call 14; exact Calls.quiet_of_same (Q2.out _)) | (go_at_call 15; exact Calls.quiet_of_same (Q3.out _)) | (go_at_call 16; exact Calls.quiet_of_same (Q4.out _)) | (go_at_call 17; exact Calls.quiet_of_same (Q5.out _)) | (go_at_call 18; exact Calls.quiet_of_same (Q6.out _)))
          go_wp2_with fail
          go_roundg gko
          case measure => omega
          case rel => exact ⟨i + 1, (W ++ zq mz), _, by omega, by go_num, (HF.out _).1, (HF.out _).2.1, (HF.out _).2.2⟩
        · go_wp2_with fail
          refine (aalloc_no _ p b S W n HA1.out (by omega)).mono ?_
          rintro e w2 ⟨rfl, rfl⟩
          have n0 : ((0 : Int) != (0 : Int)) = false := by decide
          go_wp2_with fail
          refine (ralloc_no _ q (q + 1) S vr W n HR1.out (by omega)).mono ?_
          rintro e w3 ⟨rfl, v', hr3, hb3, hk3⟩
          have HA3 : Hid (Ar w3 p b W S) := HA1.out.below hb3 HO.out.2.2.1 (by have := HO.out; omega)
          have HR3 : Hid (Ra w3 q (q + 1) v' W S) := hr3
          have HG3 : Hid (Bo w3 go k n x) := (hk3 go HGO.out.2.2 (by have := HGO.out.1; omega) HGO.out.2.1).trans HG1.out
          have HB3 : Hid (Below w.heap.size w w3) := HB1.out.trans (hb3.mono HO.out.2.2.2.2)
          clear hr3 hb3 hk3 HA1 HR1 HG1 HB1 d0 d1 d2 hf
          obtain ⟨e0, e1, e2⟩ := HG3.out.facts
          obtain ⟨r0, r1, -⟩ := HR3.out.facts
          obtain ⟨av, cv, rfl⟩ := HR3.out.shape
          have QA : ∀ m, Ar (w3.drewN m) p b W S := fun m => HA3.out.under (below_drewN (Below.refl _ _) m)
          have QR : ∀ m, Ra (w3.drewN m) q (q + 1) (.slice av (List.length W) cv) W S := fun m => HR3.out.below (below_drewN (Below.refl _ _) m)
          obtain ⟨xw, hxw⟩ : ∃ xw, xw = wordS W n := ⟨_, rfl⟩
          obtain ⟨xe, hxe⟩ : ∃ xe, xe = extS W n := ⟨_, rfl⟩
          have Q1 : Hid (∀ m, Calls Try.prog 13 #[.pointer (some ⟨p, 0, none⟩)] (w3.drewN m) fun e w' => e = .returned (.int .i64 (List.length W : Int)) ∧ w' = w3.drewN m) := fun m => (aused_any _ p b S W (QA m)).mono fun e w' h => ⟨h.1, h.2.symm⟩
          have Q2 : Hid (∀ m, Calls Try.prog 14 #[.pointer (some ⟨p, 0, none⟩)] (w3.drewN m) fun e w' => e = .returned (.int .i64 (S : Int)) ∧ w' = w3.drewN m) := fun m => (asize_any _ p b S W (QA m)).mono fun e w' h => ⟨h.1, h.2.symm⟩
          have Q3 : Hid (∀ m, Calls Try.prog 15 #[.pointer (some ⟨p, 0, none⟩), .int .i64 n] (w3.drewN m) fun e w' => e = .returned (.int .u64 xw) ∧ w' = w3.drewN m) := fun m => (aword_any _ p b S W n (QA m)).mono fun e w' h => ⟨by rw [hxw]; exact h.1, h.2.symm⟩
          have Q4 : Hid (∀ m, Calls Try.prog 16 #[.pointer (some ⟨q, 0, none⟩), .int .i64 n] (w3.drewN m) fun e w' => e = .returned (.int .u64 xw) ∧ w' = w3.drewN m) := fun m => (rword_any _ q (q + 1) S _ W n (QR m)).mono fun e w' h => ⟨by rw [hxw]; exact h.1, h.2.symm⟩
          have Q5 : Hid (∀ m, Calls Try.prog 17 #[.pointer (some ⟨p, 0, none⟩), .int .i64 n] (w3.drewN m) fun e w' => e = .returned (.int .i64 xe) ∧ w' = w3.drewN m) := fun m => (aextent_any _ p b S W n (QA m)).mono fun e w' h => ⟨by rw [hxe]; exact h.1, h.2.symm⟩
          have Q6 : Hid (∀ m, Calls Try.prog 18 #[.pointer (some ⟨q, 0, none⟩), .int .i64 n] (w3.drewN m) fun e w' => e = .returned (.int .i64 xe) ∧ w' = w3.drewN m) := fun m => (rextent_any _ q (q + 1) S _ W n (QR m)).mono fun e w' h => ⟨by rw [hxe]; exact h.1, h.2.symm⟩
          have HF : Hid (∀ m, Ar (w3.drewN m) p b W S ∧ Ra (w3.drewN m) q (q + 1) (.slice av (List.length W) cv) W S ∧ Below w.heap.size w (w3.drewN m)) := fun m => ⟨QA m, QR m, below_drewN HB3.out m⟩
          obtain ⟨wl, hwl⟩ : ∃ wl, wl = List.length W := ⟨_, rfl⟩
          rw [← hwl] at Q1 r1 HF
          have n1 : ((wl : Int) != (wl : Int)) = false := by simp
          have n2 : ((S : Int) != (S : Int)) = false := by simp
          have n3 : (xw != xw) = false := by simp
          have n4 : (xe != xe) = false := by simp
          clear QA QR HR3 HA3 HB3 HG3 hxw hxe hwl
          go_wp2_with fail
          go_quiet (first | (go_at_call 13; exact Calls.quiet_of_same (Q1.out _)) | (go_at_call 14; exact Calls.quiet_of_same (Q2.out _)) | (go_at_call 15; exact Calls.quiet_of_same (Q3.out _)) | (go_at_call 16; exact Calls.quiet_of_same (Q4.out _)) | (go_at_call 17; exact Calls.quiet_of_same (Q5.out _)) | (go_at_call 18; exact Calls.quiet_of_same (Q6.out _)))
          go_wp2_with fail
          go_roundg gko
          case measure => omega
          case rel => exact ⟨i + 1, W, _, by omega, by go_num, (HF.out _).1, (HF.out _).2.1, (HF.out _).2.2⟩
      · have HL1 : Hid (w.heap.size ≤ wn.heap.size) := HB1.out.size
        go_wp2_with fail
        refine (aset_any _ p b S W n x HA1.out hx).mono ?_
        rintro e w2 ⟨rfl, ha2, ho2, -⟩
        have HA2 : Hid (Ar w2 p b (setS W n x) S) := ha2
        have HR2 : Hid (Ra w2 q (q + 1) vr W S) := HR1.out.ot ho2 (by have := HO.out; omega)
        have HG2 : Hid (Bo w2 go k n x ∧ go < w2.heap.size) := ⟨(ho2.block go HGO.out.2.2 (by have := HGO.out.1; have := HO.out; omega)).trans HG1.out, Nat.lt_of_lt_of_le HGO.out.2.2 ho2.size⟩
        have HB2 : Hid (Below w.heap.size w w2) := HB1.out.trans (ho2.below HL1.out HO.out.1)
        clear ha2 ho2 HA1 HR1 HG1 HB1 d0 d1 d2
        obtain ⟨d0, d1, d2⟩ := HG2.out.1.facts
        go_wp2_with fail
        refine (rset_any _ q (q + 1) S vr W n x HR2.out hx).mono ?_
        rintro e w3 ⟨rfl, v', hr3, hb3, hk3⟩
        have HA3 : Hid (Ar w3 p b (setS W n x) S) := HA2.out.below hb3 HO.out.2.2.1 (by have := HO.out; omega)
        have HR3 : Hid (Ra w3 q (q + 1) v' (setS W n x) S) := hr3
        have HG3 : Hid (Bo w3 go k n x) := (hk3 go HG2.out.2 (by have := HGO.out.1; omega) HGO.out.2.1).trans HG2.out.1
        have HB3 : Hid (Below w.heap.size w w3) := HB2.out.trans (hb3.mono HO.out.2.2.2.2)
        clear hr3 hb3 hk3 HA2 HR2 HG2 HB2 d0 d1 d2
        obtain ⟨e0, e1, e2⟩ := HG3.out.facts
        obtain ⟨r0, r1, -⟩ := HR3.out.facts
        obtain ⟨av, cv, rfl⟩ := HR3.out.shape
        have QA : ∀ m, Ar (w3.drewN m) p b (setS W n x) S := fun m => HA3.out.under (below_drewN (Below.refl _ _) m)
        have QR : ∀ m, Ra (w3.drewN m) q (q + 1) (.slice av (List.length (setS W n x)) cv) (setS W n x) S := fun m => HR3.out.below (below_drewN (Below.refl _ _) m)
        obtain ⟨xw, hxw⟩ : ∃ xw, xw = wordS (setS W n x) n := ⟨_, rfl⟩
        obtain ⟨xe, hxe⟩ : ∃ xe, xe = extS (setS W n x) n := ⟨_, rfl⟩
        have Q1 : Hid (∀ m, Calls Try.prog 13 #[.pointer (some ⟨p, 0, none⟩)] (w3.drewN m) fun e w' => e = .returned (.int .i64 (List.length (setS W n x) : Int)) ∧ w' = w3.drewN m) := fun m => (aused_any _ p b S (setS W n x) (QA m)).mono fun e w' h => ⟨h.1, h.2.symm⟩
        have Q2 : Hid (∀ m, Calls Try.prog 14 #[.pointer (some ⟨p, 0, none⟩)] (w3.drewN m) fun e w' => e = .returned (.int .i64 (S : Int)) ∧ w' = w3.drewN m) := fun m => (asize_any _ p b S (setS W n x) (QA m)).mono fun e w' h => ⟨h.1, h.2.symm⟩
        have Q3 : Hid (∀ m, Calls Try.prog 15 #[.pointer (some ⟨p, 0, none⟩), .int .i64 n] (w3.drewN m) fun e w' => e = .returned (.int .u64 xw) ∧ w' = w3.drewN m) := fun m => (aword_any _ p b S (setS W n x) n (QA m)).mono fun e w' h => ⟨by rw [hxw]; exact h.1, h.2.symm⟩
        have Q4 : Hid (∀ m, Calls Try.prog 16 #[.pointer (some ⟨q, 0, none⟩), .int .i64 n] (w3.drewN m) fun e w' => e = .returned (.int .u64 xw) ∧ w' = w3.drewN m) := fun m => (rword_any _ q (q + 1) S _ (setS W n x) n (QR m)).mono fun e w' h => ⟨by rw [hxw]; exact h.1, h.2.symm⟩
        have Q5 : Hid (∀ m, Calls Try.prog 17 #[.pointer (some ⟨p, 0, none⟩), .int .i64 n] (w3.drewN m) fun e w' => e = .returned (.int .i64 xe) ∧ w' = w3.drewN m) := fun m => (aextent_any _ p b S (setS W n x) n (QA m)).mono fun e w' h => ⟨by rw [hxe]; exact h.1, h.2.symm⟩
        have Q6 : Hid (∀ m, Calls Try.prog 18 #[.pointer (some ⟨q, 0, none⟩), .int .i64 n] (w3.drewN m) fun e w' => e = .returned (.int .i64 xe) ∧ w' = w3.drewN m) := fun m => (rextent_any _ q (q + 1) S _ (setS W n x) n (QR m)).mono fun e w' h => ⟨by rw [hxe]; exact h.1, h.2.symm⟩
        have HF : Hid (∀ m, Ar (w3.drewN m) p b (setS W n x) S ∧ Ra (w3.drewN m) q (q + 1) (.slice av (List.length (setS W n x)) cv) (setS W n x) S ∧ Below w.heap.size w (w3.drewN m)) := fun m => ⟨QA m, QR m, below_drewN HB3.out m⟩
        obtain ⟨wl, hwl⟩ : ∃ wl, wl = List.length (setS W n x) := ⟨_, rfl⟩
        rw [← hwl] at Q1 r1 HF
        have n1 : ((wl : Int) != (wl : Int)) = false := by simp
        have n2 : ((S : Int) != (S : Int)) = false := by simp
        have n3 : (xw != xw) = false := by simp
        have n4 : (xe != xe) = false := by simp
        clear QA QR HR3 HA3 HB3 HG3 hxw hxe hwl
        go_wp2_with fail
        go_quiet (first | (go_at_call 13; exact Calls.quiet_of_same (Q1.out _)) | (go_at_call 14; exact Calls.quiet_of_same (Q2.out _)) | (go_at_call 15; exact Calls.quiet_of_same (Q3.out _)) | (go_at_call 16; exact Calls.quiet_of_same (Q4.out _)) | (go_at_call 17; exact Calls.quiet_of_same (Q5.out _)) | (go_at_call 18; exact Calls.quiet_of_same (Q6.out _)))
        go_wp2_with fail
        go_roundg gko
        case measure => omega
        case rel => exact ⟨i + 1, (setS W n x), _, by omega, by go_num, (HF.out _).1, (HF.out _).2.1, (HF.out _).2.2⟩
    · rcases (show L.length ≤ i ∨ (i < L.length ∧ 60 ≤ i) by omega) with hx | ⟨hx1, hx2⟩
      · have hx' : ¬ (i : Int) < (L.length : Int) := by omega
        have HT : Hid (∀ m, Ar (wr.drewN m) p b W S) := fun m => HAR.out.under (below_drewN (Below.refl _ _) m)
        have HSq : Hid (Sq wr vr W) := HRA.out.own.sq HRA.out.ok
        obtain ⟨-, r1, -⟩ := HRA.out.facts
        have HOK : Hid (Q8 W) := HAR.out.ok
        have HWD : Hid (∀ W', Below wr.heap.size wr W' → Calls Try.prog 20 #[.pointer (some ⟨p, 0, none⟩)] W' fun e w' => NewQ W W' e w') := fun W' h => awords_any W' p b S W (HAR.out.under h)
        have HSW : Hid (∀ W' v', Below wr.heap.size wr W' → Sq W' v' W → Calls Try.prog 19 #[v', vr] W' fun e w' => e = .returned (.bool true) ∧ Below W'.heap.size W' w') := fun W' v' h h' => sameWords_any W' v' vr W h' (HSq.out.under h)
        have HKP : Hid (∀ W', Below wr.heap.size wr W' → W'.cell? ⟨q, 1, none⟩ = some vr) := fun W' h => (HRA.out.below h).facts.2.1
        clear HAR HRA
        go_wp2_with fail
        go_region_held3 (fun W' => W'.cell? ⟨q, 1, none⟩ = some vr)
          (first | exact HKP.out _ ((Below.refl _ _).drew) | exact HKP.out _ hq1 | exact HKP.out _ hq2 | exact HKP.out _ hq3)
          (first
            | (go_at_call 20; refine (HWD.out _ ((Below.refl _ _).drew)).mono ?_; rintro e x1 ⟨v1, rfl, o1, b1⟩; have hq1 : Below wr.heap.size wr x1 := ((Below.refl _ _).drew).trans (b1.mono (Nat.le_refl _)))
            | (go_at_call 19; refine (HSW.out _ _ hq1 (o1.sq HOK.out)).mono ?_; rintro e x2 ⟨rfl, b2⟩; have hq2 : Below wr.heap.size wr x2 := hq1.trans (b2.mono hq1.size))
            | (go_at_call 21; refine (awake11 _).mono ?_; rintro e x3 ⟨rfl, b3⟩; have hq3 : Below wr.heap.size wr x3 := hq2.trans (b3.mono hq2.size)))
        go_wp2_with fail
        go_ret
        exact ⟨rfl, HBR.out.trans (hq3.mono HBR.out.size)⟩
      · have hx1' : (i : Int) < (L.length : Int) := by omega
        have hx2' : ¬ (i : Int) < 60 := by omega
        have HT : Hid (∀ m, Ar (wr.drewN m) p b W S) := fun m => HAR.out.under (below_drewN (Below.refl _ _) m)
        have HSq : Hid (Sq wr vr W) := HRA.out.own.sq HRA.out.ok
        obtain ⟨-, r1, -⟩ := HRA.out.facts
        have HOK : Hid (Q8 W) := HAR.out.ok
        have HWD : Hid (∀ W', Below wr.heap.size wr W' → Calls Try.prog 20 #[.pointer (some ⟨p, 0, none⟩)] W' fun e w' => NewQ W W' e w') := fun W' h => awords_any W' p b S W (HAR.out.under h)
        have HSW : Hid (∀ W' v', Below wr.heap.size wr W' → Sq W' v' W → Calls Try.prog 19 #[v', vr] W' fun e w' => e = .returned (.bool true) ∧ Below W'.heap.size W' w') := fun W' v' h h' => sameWords_any W' v' vr W h' (HSq.out.under h)
        have HKP : Hid (∀ W', Below wr.heap.size wr W' → W'.cell? ⟨q, 1, none⟩ = some vr) := fun W' h => (HRA.out.below h).facts.2.1
        clear HAR HRA
        go_wp2_with fail
        go_region_held3 (fun W' => W'.cell? ⟨q, 1, none⟩ = some vr)
          (first | exact HKP.out _ ((Below.refl _ _).drew) | exact HKP.out _ hq1 | exact HKP.out _ hq2 | exact HKP.out _ hq3)
          (first
            | (go_at_call 20; refine (HWD.out _ ((Below.refl _ _).drew)).mono ?_; rintro e x1 ⟨v1, rfl, o1, b1⟩; have hq1 : Below wr.heap.size wr x1 := ((Below.refl _ _).drew).trans (b1.mono (Nat.le_refl _)))
            | (go_at_call 19; refine (HSW.out _ _ hq1 (o1.sq HOK.out)).mono ?_; rintro e x2 ⟨rfl, b2⟩; have hq2 : Below wr.heap.size wr x2 := hq1.trans (b2.mono hq1.size))
            | (go_at_call 21; refine (awake11 _).mono ?_; rintro e x3 ⟨rfl, b3⟩; have hq3 : Below wr.heap.size wr x3 := hq2.trans (b3.mono hq2.size)))
        go_wp2_with fail
        go_ret
        exact ⟨rfl, HBR.out.trans (hq3.mono HBR.out.size)⟩
end Go.Proofs.Ytgdlilgkbjiiaaa
