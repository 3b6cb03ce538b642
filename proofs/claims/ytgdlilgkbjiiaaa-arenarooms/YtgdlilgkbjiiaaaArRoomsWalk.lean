
/-
  relictlaw11.ArenaRooms.
-/
import Derived.Test.YtgdlilgkbjiiaaaArS
import Derived.Test.YtgdlilgkbjiiaaaPlaceB
import Derived.Test.YtgdlilgkbjiiaaaSlInt
import Derived.Deep.LoopGhost
namespace Go.Proofs.Ytgdlilgkbjiiaaa
open Go.RowKit
set_option linter.unusedVariables false
set_option linter.unusedSimpArgs false

/-- The numbers from 1 to u. -/
def cnt (u : Nat) : List Int := (List.range u).map (fun i : Nat => (i : Int) + 1)
theorem cnt_len (u : Nat) : (cnt u).length = u := by simp [cnt]
theorem cnt_at (u i : Nat) (h : i < u) : (cnt u).getD i 0 = (i : Int) + 1 := by simp [cnt, List.getD, h]
theorem cnt_succ (u : Nat) : cnt (u + 1) = cnt u ++ [(u : Int) + 1] := by simp [cnt, List.range_succ]
theorem cnt_set (u m : Nat) (at' x : Int) (ha : at' = (u : Int)) (hx : x = (u : Int) + 1) : setS (cnt u ++ zq (m + 1)) at' x = cnt (u + 1) ++ zq m := by
  subst ha; subst hx
  unfold setS
  rw [if_pos (by simp [cnt_len, zq_len]; omega), show (u : Int).toNat = u by omega, List.set_append_right _ _ (by rw [cnt_len]; exact Nat.le_refl _), cnt_len, Nat.sub_self, cnt_succ]
  simp [zq, List.replicate_succ]
theorem cutA_nat (n : Nat) (h : n ≤ 32768) : cutA (n : Int) = n := by unfold cutA; omega

set_option maxRecDepth 100000 in
set_option maxHeartbeats 4000000 in
theorem arenaRooms_walk (size : Int) (v : Value) (zs : List Int) (w : World) (hs : SlI w v zs) (h1 : -9223372036854775808 ≤ size) (h2 : size ≤ 9223372036854775807) :
    Calls Try.prog 5 #[.int .i64 size, v] w fun e w' => e = .returned (.bool true) ∧ Below w.heap.size w w' := by
  obtain ⟨pa, ca, rfl⟩ := hs.shape
  have HS : Hid (SlI w (.slice pa zs.length ca) zs) := hs
  obtain ⟨n, hn⟩ : ∃ n : Nat, (n : Int) = size % 200 := ⟨(size % 200).toNat, by omega⟩
  have hn2 : n < 200 := by omega
  have HP0 : Hid (∀ W, Calls Try.prog 8 #[.int .i64 size, .int .i64 200] W fun e w' => e = .returned (.int .i64 (n : Int)) ∧ W = w') := fun W => by rw [hn]; exact place_any size 200 W (by decide) (by decide) h1 h2
  have HN : Hid (∀ W, Calls Try.prog 6 #[.int .i64 (n : Int)] W fun e w' => NewA n W e w') := fun W => by
    have := anew_any (n : Int) W (by omega) (by omega)
    rwa [cutA_nat n (by omega)] at this
  clear hn hs h1 h2
  go_enter Try.func5, Try.ntmps5
  go_wp2_with fail
  refine (HP0.out _).mono ?_
  rintro e w1 ⟨rfl, rfl⟩
  go_wp2_with fail
  refine (HN.out _).mono ?_
  rintro e w0 ⟨p, b, rfl, hb1, hb2, ha, hb⟩
  have HB1 : Hid (w.heap.size ≤ b ∧ w.heap.size ≤ p ∧ w.heap.size ≤ w0.heap.size) := ⟨hb1, by omega, hb.size⟩
  have HA0 : Hid (Ar w0 p b (cnt 0) n) := ha
  have HB0 : Hid (Below w.heap.size w w0) := hb
  clear hb1 hb2 ha hb HP0 HN
  go_wp2_with fail
  go_loopg [7, 8] 40 (fun gk su si wr => ∃ u i : Nat, i + gk = 40 ∧ su = .int .i64 (u : Int) ∧ si = .int .i64 (i : Int) ∧ u ≤ n ∧ Ar wr p b (cnt u) n ∧ Below w.heap.size w wr)
  case atStart => exact ⟨0, 0, rfl, rfl, rfl, Nat.zero_le _, HA0.out, HB0.out⟩
  case round =>
    obtain ⟨u, i, hi, rfl, rfl, hu, hAr, hBr⟩ := hrel
    have HAR : Hid (Ar _ p b (cnt u) n) := hAr
    have HBR : Hid (Below w.heap.size w _) := hBr
    clear hAr hBr HA0 HB0
    by_cases hl : i < zs.length ∧ i < 40
    · obtain ⟨hl1, hl2⟩ := hl
      obtain ⟨gko, rfl⟩ : ∃ g, gk = g + 1 := ⟨gk - 1, by omega⟩
      have hl1' : (i : Int) < (zs.length : Int) := by omega
      have hl2' : (i : Int) < 40 := by omega
      obtain ⟨b1, off1, rfl, c1⟩ := (HS.out.below HBR.out).at i hl1
      have hzb := HS.out.bd i hl1
      obtain ⟨z, hz⟩ : ∃ z, z = zs.getD i 0 := ⟨_, rfl⟩
      rw [← hz] at c1 hzb
      obtain ⟨k, hk⟩ : ∃ k : Nat, (k : Int) = z % 12 := ⟨(z % 12).toNat, by omega⟩
      have hk2 : k < 12 := by omega
      have HP : Hid (∀ W, Calls Try.prog 8 #[.int .i64 z, .int .i64 12] W fun e w' => e = .returned (.int .i64 (k : Int)) ∧ W = w') := fun W => by rw [hk]; exact place_any z 12 W (by decide) (by decide) hzb.1 hzb.2
      clear hz hk hl1 hl2
      go_wp2_with fail
      refine (HP.out _).mono ?_
      rintro e w1 ⟨rfl, rfl⟩
      go_wp2_with fail
      by_cases hf : k ≤ n - u
      · have hf' : (k : Int) ≤ (n : Int) - (u : Int) := by omega
        refine (aalloc_yes _ p b n (cnt u) k HAR.out (by rw [cnt_len]; exact hf)).mono ?_
        rintro e w1 ⟨rfl, ha1, ho1, -⟩
        have HL : Hid (w.heap.size ≤ wr.heap.size) := by have := HBR.out.size; exact this
        have HA1 : Hid (Ar w1 p b (cnt u ++ zq k) n) := ha1
        have HB2 : Hid (Below w.heap.size w w1) := HBR.out.trans (ho1.below HL.out HB1.out.2.1)
        rw [cnt_len]
        clear ha1 ho1 HAR HBR c1
        go_wp2_with fail
        go_loopg [12] k (fun gk sj wr => ∃ j : Nat, j + gk = k ∧ sj = .int .i64 (j : Int) ∧ Ar wr p b (cnt (u + j) ++ zq gk) n ∧ Below w.heap.size w wr)
        case atStart => exact ⟨0, by omega, rfl, HA1.out, HB2.out⟩
        case round =>
          obtain ⟨j, hj, rfl, hAr, hBr⟩ := hrel
          have HAR : Hid (Ar _ p b (cnt (u + j) ++ zq gk) n) := hAr
          have HBR : Hid (Below w.heap.size w _) := hBr
          clear hAr hBr HA1 HB2
          have hun : u + k ≤ n := by omega
          cases gk with
          | zero =>
            obtain rfl : j = k := by omega
            have HAQ : Hid (Ar wr p b (cnt (u + j)) n) := by have := HAR.out; rwa [show zq 0 = [] from rfl, List.append_nil] at this
            have hjj : ¬ (j : Int) < (j : Int) := by omega
            clear HAR
            go_wp2_with fail
            go_roundg gko
            case measure => omega
            case rel => exact ⟨u + j, i + 1, by omega, by go_num, by go_num, hun, HAQ.out, HBR.out⟩
          | succ gki =>
            have hjk : (j : Int) < (k : Int) := by omega
            have hx : 0 ≤ (u : Int) + (j : Int) + 1 ∧ (u : Int) + (j : Int) + 1 < 18446744073709551616 := by omega
            have HT : Hid (∀ W, Ar W p b (cnt (u + j) ++ zq (gki + 1)) n → Calls Try.prog 11 #[.pointer (some ⟨p, 0, none⟩), .int .i64 ((u : Int) + (j : Int)), .int .u64 ((u : Int) + (j : Int) + 1)] W fun e w' => e = .returned (.tuple #[]) ∧ Ar w' p b (cnt (u + (j + 1)) ++ zq gki) n ∧ Ot b W w') := fun W hW =>
              (aset_any W p b n _ ((u : Int) + (j : Int)) ((u : Int) + (j : Int) + 1) hW hx).mono fun e w' q => ⟨q.1, by have := q.2.1; rwa [cnt_set (u + j) gki _ _ (by omega) (by omega)] at this, q.2.2.1⟩
            have HL : Hid (w.heap.size ≤ wr.heap.size) := by have := HBR.out.size; exact this
            go_wp2_with fail
            refine (HT.out _ HAR.out).mono ?_
            rintro e w1 ⟨rfl, ha1, ho1⟩
            have HA1 : Hid (Ar w1 p b (cnt (u + (j + 1)) ++ zq gki) n) := ha1
            have HB2 : Hid (Below w.heap.size w w1) := HBR.out.trans (ho1.below HL.out HB1.out.1)
            clear ha1 ho1 HAR HBR
            go_wp2_with fail
            go_roundg gki
            case measure => omega
            case rel => exact ⟨j + 1, by omega, by go_num, HA1.out, HB2.out⟩
      · have hf' : ¬ (k : Int) ≤ (n : Int) - (u : Int) := by omega
        refine (aalloc_no _ p b n (cnt u) k HAR.out (by rw [cnt_len]; omega)).mono ?_
        rintro e w1 ⟨rfl, rfl⟩
        clear c1
        go_wp2_with fail
        go_roundg gko
        case measure => omega
        case rel => exact ⟨u, i + 1, by omega, by go_num, by go_num, hu, HAR.out, HBR.out⟩
    · rcases (show zs.length ≤ i ∨ (i < zs.length ∧ 40 ≤ i) by omega) with hx | ⟨hx1, hx2⟩
      · have hx' : ¬ (i : Int) < (zs.length : Int) := by omega
        go_wp2_with fail
        refine (awords_any _ p b n (cnt u) HAR.out).mono ?_
        rintro e w2 ⟨vw, rfl, ho2, hb2⟩
        have HQ : Hid (Sq w2 vw (cnt u)) := ho2.sq HAR.out.ok
        have HA2 : Hid (Ar w2 p b (cnt u) n) := HAR.out.under hb2
        have HB2 : Hid (Below w.heap.size w w2) := HBR.out.trans (hb2.mono HBR.out.size)
        obtain ⟨pw, cw, rfl, hcw, hcw2, -⟩ := HQ.out.shape
        rw [cnt_len] at HQ hcw ⊢
        clear ho2 hb2 HAR HBR
        go_wp2_with fail
        go_loopg [14] u (fun gk sj wr => ∃ j : Nat, j + gk = u ∧ sj = .int .i64 (j : Int) ∧ Below w2.heap.size w2 wr)
        case atStart => exact ⟨0, by omega, rfl, Below.refl _ _⟩
        case round =>
          obtain ⟨j, hj, rfl, hBr⟩ := hrel
          have HQ3 : Hid (Sq _ (.slice pw u cw) (cnt u)) := HQ.out.under hBr
          have HA3 : Hid (Ar _ p b (cnt u) n) := HA2.out.under hBr
          have HB3 : Hid (Below w.heap.size w _) := HB2.out.trans (hBr.mono HB2.out.size)
          have HBR3 : Hid (Below w2.heap.size w2 _) := hBr
          clear hBr
          cases gk with
          | zero =>
            obtain rfl : j = u := by omega
            have hjj : ¬ (j : Int) < (j : Int) := by omega
            have W1 : Hid (∀ W, Ar W p b (cnt j) n → Calls Try.prog 15 #[.pointer (some ⟨p, 0, none⟩), .int .i64 (-1)] W fun e w' => e = .returned (.int .u64 0) ∧ W = w') := fun W hW => aword_any W p b n (cnt j) (-1) hW
            have W2 : Hid (∀ W, Ar W p b (cnt j) n → Calls Try.prog 15 #[.pointer (some ⟨p, 0, none⟩), .int .i64 (j : Int)] W fun e w' => e = .returned (.int .u64 0) ∧ W = w') := fun W hW => by
              have := aword_any W p b n (cnt j) (j : Int) hW
              rwa [show wordS (cnt j) (j : Int) = 0 by unfold wordS; rw [if_neg (by rw [cnt_len]; omega)]] at this
            have U1 : Hid (∀ W, Ar W p b (cnt j) n → Calls Try.prog 13 #[.pointer (some ⟨p, 0, none⟩)] W fun e w' => e = .returned (.int .i64 (j : Int)) ∧ W = w') := fun W hW => by
              have := aused_any W p b n (cnt j) hW
              rwa [cnt_len] at this
            clear HQ HA2 HB2 HQ3 HBR3
            go_wp2_with fail
            refine (aalloc_no _ p b n (cnt j) (-1) HA3.out (by omega)).mono ?_
            rintro e w1 ⟨rfl, rfl⟩
            go_wp2_with fail
            refine (U1.out _ HA3.out).mono ?_
            rintro e w1 ⟨rfl, rfl⟩
            go_wp2_with fail
            refine (W1.out _ HA3.out).mono ?_
            rintro e w1 ⟨rfl, rfl⟩
            go_wp2_with fail
            refine (W2.out _ HA3.out).mono ?_
            rintro e w1 ⟨rfl, rfl⟩
            go_wp2_with fail
            refine (awake11 _).mono ?_
            rintro e w4 ⟨rfl, hb4⟩
            go_wp2_with fail
            go_ret
            exact ⟨rfl, HB3.out.trans (hb4.mono HB3.out.size)⟩
          | succ gki =>
            have hjk : (j : Int) < (u : Int) := by omega
            have hju : j < (cnt u).length := by rw [cnt_len]; omega
            obtain ⟨b3, off3, rfl, c3⟩ := HQ3.out.at j hju
            rw [cnt_at u j (by omega)] at c3
            have HW : Hid (∀ W, Ar W p b (cnt u) n → Calls Try.prog 15 #[.pointer (some ⟨p, 0, none⟩), .int .i64 (j : Int)] W fun e w' => e = .returned (.int .u64 ((j : Int) + 1)) ∧ w' = W) := fun W hW => by
              have := aword_any W p b n (cnt u) (j : Int) hW
              rw [wordS_at _ _ hju, cnt_at u j (by omega)] at this
              exact this.mono fun e w' q => ⟨q.1, q.2.symm⟩
            have HD : Hid (∀ m, Ar (wr.drewN m) p b (cnt u) n) := fun m => HA3.out.under (below_drewN (Below.refl _ _) m)
            have HBD : Hid (∀ m, Below w2.heap.size w2 (wr.drewN m)) := fun m => below_drewN HBR3.out m
            obtain ⟨y, hy⟩ : ∃ y, (j : Int) + 1 = y := ⟨_, rfl⟩
            have HY : Hid ((j : Int) + 1 = y) := hy
            have hw1 : IntKind.u64.wrap y = y := by rw [IntKind.wrap_u64]; omega
            have hw2 : IntKind.i64.wrap y = y := by rw [IntKind.wrap_i64]; omega
            rw [hy] at c3 HW
            have hne : (y != y) = false := by simp
            clear hju
            go_wp2_with fail
            go_quiet ((go_at_call 15; exact Calls.quiet_of_same (HW.out _ (HD.out _))))
            go_wp2_with fail
            go_roundg gki
            case measure => omega
            case rel => exact ⟨j + 1, by omega, by rw [← HY.out]; go_num, HBD.out _⟩
      · have hx1' : (i : Int) < (zs.length : Int) := by omega
        have hx2' : ¬ (i : Int) < 40 := by omega
        go_wp2_with fail
        refine (awords_any _ p b n (cnt u) HAR.out).mono ?_
        rintro e w2 ⟨vw, rfl, ho2, hb2⟩
        have HQ : Hid (Sq w2 vw (cnt u)) := ho2.sq HAR.out.ok
        have HA2 : Hid (Ar w2 p b (cnt u) n) := HAR.out.under hb2
        have HB2 : Hid (Below w.heap.size w w2) := HBR.out.trans (hb2.mono HBR.out.size)
        obtain ⟨pw, cw, rfl, hcw, hcw2, -⟩ := HQ.out.shape
        rw [cnt_len] at HQ hcw ⊢
        clear ho2 hb2 HAR HBR
        go_wp2_with fail
        go_loopg [14] u (fun gk sj wr => ∃ j : Nat, j + gk = u ∧ sj = .int .i64 (j : Int) ∧ Below w2.heap.size w2 wr)
        case atStart => exact ⟨0, by omega, rfl, Below.refl _ _⟩
        case round =>
          obtain ⟨j, hj, rfl, hBr⟩ := hrel
          have HQ3 : Hid (Sq _ (.slice pw u cw) (cnt u)) := HQ.out.under hBr
          have HA3 : Hid (Ar _ p b (cnt u) n) := HA2.out.under hBr
          have HB3 : Hid (Below w.heap.size w _) := HB2.out.trans (hBr.mono HB2.out.size)
          have HBR3 : Hid (Below w2.heap.size w2 _) := hBr
          clear hBr
          cases gk with
          | zero =>
            obtain rfl : j = u := by omega
            have hjj : ¬ (j : Int) < (j : Int) := by omega
            have W1 : Hid (∀ W, Ar W p b (cnt j) n → Calls Try.prog 15 #[.pointer (some ⟨p, 0, none⟩), .int .i64 (-1)] W fun e w' => e = .returned (.int .u64 0) ∧ W = w') := fun W hW => aword_any W p b n (cnt j) (-1) hW
            have W2 : Hid (∀ W, Ar W p b (cnt j) n → Calls Try.prog 15 #[.pointer (some ⟨p, 0, none⟩), .int .i64 (j : Int)] W fun e w' => e = .returned (.int .u64 0) ∧ W = w') := fun W hW => by
              have := aword_any W p b n (cnt j) (j : Int) hW
              rwa [show wordS (cnt j) (j : Int) = 0 by unfold wordS; rw [if_neg (by rw [cnt_len]; omega)]] at this
            have U1 : Hid (∀ W, Ar W p b (cnt j) n → Calls Try.prog 13 #[.pointer (some ⟨p, 0, none⟩)] W fun e w' => e = .returned (.int .i64 (j : Int)) ∧ W = w') := fun W hW => by
              have := aused_any W p b n (cnt j) hW
              rwa [cnt_len] at this
            clear HQ HA2 HB2 HQ3 HBR3
            go_wp2_with fail
            refine (aalloc_no _ p b n (cnt j) (-1) HA3.out (by omega)).mono ?_
            rintro e w1 ⟨rfl, rfl⟩
            go_wp2_with fail
            refine (U1.out _ HA3.out).mono ?_
            rintro e w1 ⟨rfl, rfl⟩
            go_wp2_with fail
            refine (W1.out _ HA3.out).mono ?_
            rintro e w1 ⟨rfl, rfl⟩
            go_wp2_with fail
            refine (W2.out _ HA3.out).mono ?_
            rintro e w1 ⟨rfl, rfl⟩
            go_wp2_with fail
            refine (awake11 _).mono ?_
            rintro e w4 ⟨rfl, hb4⟩
            go_wp2_with fail
            go_ret
            exact ⟨rfl, HB3.out.trans (hb4.mono HB3.out.size)⟩
          | succ gki =>
            have hjk : (j : Int) < (u : Int) := by omega
            have hju : j < (cnt u).length := by rw [cnt_len]; omega
            obtain ⟨b3, off3, rfl, c3⟩ := HQ3.out.at j hju
            rw [cnt_at u j (by omega)] at c3
            have HW : Hid (∀ W, Ar W p b (cnt u) n → Calls Try.prog 15 #[.pointer (some ⟨p, 0, none⟩), .int .i64 (j : Int)] W fun e w' => e = .returned (.int .u64 ((j : Int) + 1)) ∧ w' = W) := fun W hW => by
              have := aword_any W p b n (cnt u) (j : Int) hW
              rw [wordS_at _ _ hju, cnt_at u j (by omega)] at this
              exact this.mono fun e w' q => ⟨q.1, q.2.symm⟩
            have HD : Hid (∀ m, Ar (wr.drewN m) p b (cnt u) n) := fun m => HA3.out.under (below_drewN (Below.refl _ _) m)
            have HBD : Hid (∀ m, Below w2.heap.size w2 (wr.drewN m)) := fun m => below_drewN HBR3.out m
            obtain ⟨y, hy⟩ : ∃ y, (j : Int) + 1 = y := ⟨_, rfl⟩
            have HY : Hid ((j : Int) + 1 = y) := hy
            have hw1 : IntKind.u64.wrap y = y := by rw [IntKind.wrap_u64]; omega
            have hw2 : IntKind.i64.wrap y = y := by rw [IntKind.wrap_i64]; omega
            rw [hy] at c3 HW
            have hne : (y != y) = false := by simp
            clear hju
            go_wp2_with fail
            go_quiet ((go_at_call 15; exact Calls.quiet_of_same (HW.out _ (HD.out _))))
            go_wp2_with fail
            go_roundg gki
            case measure => omega
            case rel => exact ⟨j + 1, by omega, by rw [← HY.out]; go_num, HBD.out _⟩
end Go.Proofs.Ytgdlilgkbjiiaaa
