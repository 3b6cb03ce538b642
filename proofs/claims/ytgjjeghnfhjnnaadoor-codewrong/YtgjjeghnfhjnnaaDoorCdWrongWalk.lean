
/-
  relictlaw08.CodeWrong.
-/
import Derived.Test.YtgjjeghnfhjnnaaDoorCdOneWalk
import Derived.Test.YtgjjeghnfhjnnaaDoorPlaceB
namespace Go.Proofs.YtgjjeghnfhjnnaaDoor
open Go.RowKit
set_option linter.unusedVariables false
set_option linter.unusedSimpArgs false

theorem byte_ind {P : UInt8 → Prop} (h : ∀ n : Fin 256, P (UInt8.ofNat n)) (b : UInt8) : P b := by
  have := h ⟨b.toNat, b.toNat_lt⟩
  simpa using this
def mvI : In := ⟨4, [agS (3, 3), agS (3, 0)]⟩
def repB (k : Nat) : List UInt8 := (List.replicate k [4, 51, 3]).flatten
theorem repB_succ (k : Nat) (t : List UInt8) : repB (k + 1) ++ t = 4 :: 51 :: 3 :: (repB k ++ t) := by
  unfold repB
  rw [List.replicate_succ, List.flatten_cons]
  simp
theorem repB_snoc (k : Nat) : repB k ++ [4, 51, 3] = repB (k + 1) := by
  unfold repB
  rw [List.replicate_succ', List.flatten_append]
  simp
theorem repB_len (k : Nat) : (repB k).length = 3 * k := by
  induction k with
  | zero => rfl
  | succ k ih => rw [← repB_snoc, List.length_append, ih]; simp; omega
theorem ins_mv (t : List UInt8) : insR (4 :: 51 :: 3 :: t) = (0, mvI, 3) := by
  have a1 := op_of (a := ⟨3, 3, []⟩) (by decide +kernel) (3 :: t)
  have a2 := op_of (a := ⟨3, 0, []⟩) (by decide +kernel) t
  have p1 : (⟨3, 3, []⟩ : Ar).put = [51] := by decide +kernel
  have p2 : (⟨3, 0, []⟩ : Ar).put = [3] := by decide +kernel
  rw [p1] at a1
  rw [p2] at a2
  simp only [List.cons_append, List.nil_append, List.length_cons, List.length_nil] at a1 a2
  have ha : argsR 2 (51 :: 3 :: t) = (0, [agS (3, 3), agS (3, 0)], 2) := by
    rw [argsR, a1]
    simp only [if_true, List.drop_succ_cons, List.drop_zero, Nat.zero_add]
    rw [argsR, a2]
    rfl
  have g0 : (4 :: 51 :: 3 :: t : List UInt8).getD 0 0 = 4 := rfl
  have g1 : (4 :: 51 :: 3 :: t : List UInt8).drop 1 = 51 :: 3 :: t := rfl
  have hn : nmS (((4 : UInt8).toNat : Nat) : Int) ≠ [] := by decide +kernel
  have hs : (sigS (((4 : UInt8).toNat : Nat) : Int)).length = 2 := by decide +kernel
  have hf : fitsI (((4 : UInt8).toNat : Nat) : Int) [agS (3, 3), agS (3, 0)] = true := by decide +kernel
  unfold insR
  rw [if_neg (by simp), g0, g1, if_neg hn, hs, ha]
  dsimp only
  rw [if_neg (by simp), if_pos hf]
  rfl
theorem code_rep (t : List UInt8) : ∀ k m : Nat, codeR (m + k) (repB k ++ t) = cmbC (List.replicate k mvI) (3 * k) (codeR m t)
  | 0, m => by
    have h1 := code_read m t
    have h2 := code_wrong m t
    show codeR m t = _
    unfold cmbC
    by_cases h : (codeR m t).1 = 0
    · rw [if_pos h]
      exact Prod.ext h (Prod.ext (by simp) (h1 h).2.1)
    · rw [if_neg h]
      exact Prod.ext rfl (Prod.ext (h2 h).1 (by simp))
  | k + 1, m => by
    rw [repB_succ, ← Nat.add_assoc, codeR, ins_mv]
    simp only [List.drop_succ_cons, List.drop_zero]
    rw [if_neg (by simp), if_neg (by unfold mvI; decide), code_rep t k m, cmbC_cmbC]
    congr 1
    omega
theorem op_nil : opR [] = (3, Ar.zero, 0) := by
  have := op_cut (a := ⟨3, 0, []⟩) (by decide +kernel) 0 (by decide +kernel)
  simpa using this
theorem code_nil (m : Nat) : codeR (m + 1) [] = (3, [], 0) := rfl
theorem nm_some {op : Int} (h1 : 1 ≤ op) (h2 : op ≤ 51) : nmS op ≠ [] := by
  unfold nmS
  rw [if_pos ⟨h1, h2⟩]
  have h3 : (op - 1).toNat < 51 := by omega
  generalize (op - 1).toNat = k at *
  have : ∀ k < 51, nmT.getD k [] ≠ [] := by decide +kernel
  exact this k h3
theorem args_nil (m : Nat) : argsR (m + 1) [] = (3, [], 0) := by
  rw [argsR, op_nil]
  rfl
/-- One byte more. -/
theorem code_by (m : Nat) (x : UInt8) :
    (x.toNat = 3 → codeR (m + 2) [x] = (0, [⟨3, []⟩], 0)) ∧
    (x.toNat = 0 ∨ 51 < x.toNat → codeR (m + 2) [x] = (9, [], 0)) ∧
    (x.toNat ≠ 3 → 1 ≤ x.toNat → x.toNat ≤ 51 → (sigS (x.toNat : Int)).length ≠ 0 → codeR (m + 2) [x] = (3, [], 0)) ∧
    (x.toNat ≠ 3 → 1 ≤ x.toNat → x.toNat ≤ 51 → (sigS (x.toNat : Int)).length = 0 → codeR (m + 2) [x] = (3, [], 1)) := by
  refine ⟨fun h => ?_, fun h => ?_, fun h h1 h2 hs => ?_, fun h h1 h2 hs => ?_⟩
  · have : x = 3 := UInt8.toNat_inj.1 (by rw [h]; rfl)
    rw [this]; exact code_e1 (m + 1)
  · have hi : insR [x] = (9, In.zero, 0) := by
      unfold insR
      have g0 : ([x] : List UInt8).getD 0 0 = x := rfl
      rw [if_neg (by simp), g0, if_pos (nm_out (by omega))]
    rw [codeR, hi]
    simp
  · have hi : insR [x] = (3, In.zero, 0) := by
      unfold insR
      have g0 : ([x] : List UInt8).getD 0 0 = x := rfl
      have g1 : ([x] : List UInt8).drop 1 = [] := rfl
      obtain ⟨s, hs2⟩ : ∃ s, (sigS (x.toNat : Int)).length = s + 1 := ⟨(sigS (x.toNat : Int)).length - 1, by omega⟩
      rw [if_neg (by simp), g0, g1, if_neg (nm_some (by omega) (by omega)), hs2, args_nil, if_pos (by decide)]
    rw [codeR, hi]
    simp
  · have hi : insR [x] = (0, ⟨(x.toNat : Int), []⟩, 1) := by
      unfold insR
      have g0 : ([x] : List UInt8).getD 0 0 = x := rfl
      have g1 : ([x] : List UInt8).drop 1 = [] := rfl
      have hf : fitsI (x.toNat : Int) [] = true := by
        unfold fitsI
        rw [hs]
        simp
        omega
      rw [if_neg (by simp), g0, g1, if_neg (nm_some (by omega) (by omega)), hs]
      unfold argsR
      dsimp only
      rw [if_neg (by simp), if_pos hf]
    rw [codeR, hi]
    dsimp only
    rw [if_neg (by simp), if_neg (by omega)]
    simp only [List.drop_succ_cons, List.drop_zero]
    rw [code_nil]
    rfl
/-- Bytes in new memory. -/
theorem By.lits (w : World) (l : List UInt8) (hl : l.length ≤ 1000000) : By (w.alloc (.cells (bv l).toArray 5)) (.slice (some ⟨w.heap.size, 0, none⟩) l.length l.length) l := by
  refine ⟨some ⟨w.heap.size, 0, none⟩, l.length, rfl, Nat.le_refl _, by omega, fun e => (by cases e), fun _ => ⟨w.heap.size, 0, rfl, by simp, fun i hi => ?_⟩⟩
  have := new_cells w (bv l) 5 i (.int .u8 ((l.getD i 0).toNat : Int)) (by simp [bv, List.getD, hi])
  rw [add_at] at this
  rw [Nat.zero_add]
  exact this

set_option maxRecDepth 100000 in
set_option maxHeartbeats 4000000 in
theorem codeWrong_walk (n x : Int) (w : World) (hN : Nam w) (hS : Spn w) (a1 : -9223372036854775808 ≤ n) (a2 : n ≤ 9223372036854775807) (b1 : 0 ≤ x) (b2 : x ≤ 255) :
    Calls Tryd.prog 7 #[.int .i64 n, .int .u8 x] w (RBool true w) := by
  have HAW : Hid (∀ W, Below w.heap.size w W → Calls Tryd.prog 26 #[] W (RBool true W)) := fun W hW => awake8 W (hN.under hW) (hS.under hW)
  have HN : Hid (Nam w) := hN
  have HS : Hid (Spn w) := hS
  have HPL : Hid (∀ W, Calls Tryd.prog 21 #[.int .i64 n, .int .i64 60] W fun e w' => e = .returned (.int .i64 (n % 60)) ∧ W = w') := fun W => place_any n 60 W (by decide) (by decide) a1 a2
  obtain ⟨kk, hkk⟩ : ∃ kk : Nat, n % 60 = (kk : Int) := ⟨(n % 60).toNat, by omega⟩
  have hk60 : kk < 60 := by omega
  rw [hkk] at HPL
  have hk60i : (kk : Int) < 60 := by omega
  obtain ⟨X, hX⟩ : ∃ X, X = ub8 x := ⟨_, rfl⟩
  have hXn : (X.toNat : Int) = x := by rw [hX]; exact ub8_val b1 b2
  have HC : Hid (codeR 400 (repB kk ++ [X]) = cmbC (List.replicate kk mvI) (3 * kk) (codeR (398 - kk + 2) [X])) := by
    have := code_rep [X] kk (398 - kk + 2)
    rw [show 398 - kk + 2 + kk = 400 by omega] at this
    exact this
  have HBY := code_by (398 - kk) X
  have HBY2 : Hid _ := HBY
  clear hN hS hkk a1 a2 HBY
  go_enter Tryd.func7, Tryd.ntmps7
  go_wp2_with fail
  refine (HPL.out _).mono ?_
  rintro e w1 ⟨rfl, rfl⟩
  clear HPL
  go_wp2_with fail
  go_loopg [6, 7] kk (fun gk s6 s7 wr => ∃ (j : Nat) (v6 : Value), j + gk = kk ∧ v6 = s6 ∧ s7 = .int .i64 (j : Int) ∧ Hid (OB wr w.heap.size v6 (repB j)) ∧ Hid (Below w.heap.size w wr))
  case atStart => exact ⟨0, _, by omega, rfl, rfl, OB.nil _ _, Below.refl _ _⟩
  case round =>
    obtain ⟨j, v6, hj, rfl, rfl, HO, HB⟩ := hrel
    have hws := HB.out.size
    cases gk with
    | succ g =>
      have hji : (j : Int) < (kk : Int) := by omega
      have ba := box_below wr #[.int .u8 4, .int .u8 51, .int .u8 3] 5
      have HO2 : Hid (OB (wr.alloc (.cells #[.int .u8 4, .int .u8 51, .int .u8 3] 5)) w.heap.size v6 (repB j)) := HO.out.under ba
      have HB2 : Hid (Below w.heap.size w (wr.alloc (.cells #[.int .u8 4, .int .u8 51, .int .u8 3] 5))) := HB.out.trans (ba.mono hws)
      have HL3 : Hid (By (wr.alloc (.cells #[.int .u8 4, .int .u8 51, .int .u8 3] 5)) (.slice (some ⟨wr.heap.size, 0, none⟩) 3 3) [4, 51, 3]) := By.lits wr [4, 51, 3] (by decide)
      have hrl := repB_len j
      clear HO HB ba HC HBY2
      go_wp2_with (first | (at_builtin; refine wpList_append_by rfl _ _ rfl w.heap.size v6 (repB j) rfl HO2.out (by omega) (by simp; omega) _ [4, 51, 3] rfl HL3.out (by decide) ?_; intro v7 w7 hO7 hBB hKK; rw [repB_snoc] at hO7; have HO7 : Hid (OB w7 w.heap.size v7 (repB (j + 1))) := hO7; have HB7 : Hid (Below w.heap.size w w7) := hBB _ _ (by simp; omega) (Nat.le_refl _) HB2.out; clear hO7 hBB hKK) | fail)
      go_roundg g
      case measure => omega
      case rel => exact ⟨j + 1, v7, by omega, rfl, by go_num, HO7, HB7⟩
    | zero =>
      obtain rfl : j = kk := by omega
      have ba := box_below wr #[.int .u8 x] 5
      have HO2 : Hid (OB (wr.alloc (.cells #[.int .u8 x] 5)) w.heap.size v6 (repB j)) := HO.out.under ba
      have HB2 : Hid (Below w.heap.size w (wr.alloc (.cells #[.int .u8 x] 5))) := HB.out.trans (ba.mono hws)
      have HL1 : Hid (By (wr.alloc (.cells #[.int .u8 x] 5)) (.slice (some ⟨wr.heap.size, 0, none⟩) 1 1) [X]) := by have := By.lit wr x b1 b2; rw [← hX] at this; exact this
      have hrl := repB_len j
      clear HO HB ba hX
      go_wp2_with (first | (at_builtin; refine wpList_append_by rfl _ _ rfl w.heap.size v6 (repB j) rfl HO2.out (by omega) (by simp; omega) _ [X] rfl HL1.out (by simp) ?_; intro v7 w7 hO7 hBB hKK; have HB7 : Hid (Below w.heap.size w w7) := hBB _ _ (by simp; omega) (Nat.le_refl _) HB2.out; have HG : Hid (Calls Tryd.prog 27 #[v7] w7 (CodePost w7 (cmbC (List.replicate j mvI) (3 * j) (codeR (398 - j + 2) [X])))) := (by have := codeGet_any w7 v7 _ (HN.out.under HB7.out) (HS.out.under HB7.out) (OB.by hO7); rw [HC.out] at this; exact this); clear hO7 hBB hKK) | fail)
      obtain ⟨q1, q2, q3, q4⟩ := HBY2.out
      have hjl : (0 : Int) ≤ (j : Int) := by omega
      clear HC HBY2 HO2 HB2 HL1 hrl HN HS
      by_cases x3 : x = 3
      · rw [q1 (by omega)] at HG
        subst x3
        obtain ⟨L, hL⟩ : ∃ L, L = List.replicate j mvI ++ [⟨3, []⟩] := ⟨_, rfl⟩
        have hLl : L.length = j + 1 := by rw [hL]; simp
        have hLo : L[j]'(by omega) = ⟨3, []⟩ := by subst hL; simp
        have HG2 : Hid (Calls Tryd.prog 27 #[v7] w7 (CodePost w7 (0, L, 0))) := by
          have := HG.out
          unfold cmbC at this
          rw [if_pos rfl, ← hL] at this
          exact this
        have hle : ((L.length : Int) == (j : Int) + 1) = true := by simp; omega
        clear HG hL q1 q2 q3 q4 hXn
        refine HG2.out.mono ?_
        rintro e w8 ⟨sl, rfl, hi, b8⟩
        dsimp only at hi ⊢
        obtain ⟨aq, cs, rfl, hs1, hs2, hs3⟩ := hi.shape
        obtain ⟨b, off, p, m, c, rfl, hlt, ⟨c0, c1⟩, -⟩ := hi.at j (by omega)
        rw [hLo] at c0
        dsimp only at c0
        have HB8 : Hid (Below w.heap.size w w8) := HB7.out.trans (b8.mono HB7.out.size)
        have hji : (j : Int) < (L.length : Int) := by omega
        have hjc : (j : Int) < (cs : Int) := by omega
        clear hi b8 HG2 HB7 hLo hLl hs3
        go_wp2_with fail
        refine (HAW.out _ HB8.out).mono ?_
        rintro e w9 ⟨rfl, b9⟩
        have HB9 : Hid (Below w.heap.size w w9) := HB8.out.trans (b9.mono HB8.out.size)
        clear b9
        go_wp2_with fail
        go_ret
        exact ⟨rfl, HB9.out⟩
      have x3b : (x == 3) = false := by simp [x3]
      have HX3 : Hid (X.toNat ≠ 3) := by unfold Hid; omega
      by_cases x0 : x = 0 ∨ 51 < x
      · rcases x0 with x0 | x0
        · have x0b : (x == 0) = true := by simp [x0]
          have HG2 : Hid (Calls Tryd.prog 27 #[v7] w7 (CodePost w7 (9, [], 3 * j))) := by
            have := HG.out
            rw [q2 (by omega)] at this
            exact this
          obtain ⟨N, hN⟩ : ∃ N, N = 3 * j := ⟨_, rfl⟩
          rw [← hN] at HG2
          have hE : ((N : Int) == 3 * (j : Int)) = true := by simp; omega
          clear HG hN q1 q2 q3 q4 HX3 x3
          refine HG2.out.mono ?_
          rintro e w8 ⟨sl, rfl, hi, b8⟩
          dsimp only at hi ⊢
          obtain ⟨aq, cs, rfl, hs1, hs2, hs3⟩ := hi.shape
          have HB8 : Hid (Below w.heap.size w w8) := HB7.out.trans (b8.mono HB7.out.size)
          dsimp only [List.length_nil]
          clear hi b8 HG2 HB7 hs3
          go_wp2_with fail
          refine (HAW.out _ HB8.out).mono ?_
          rintro e w9 ⟨rfl, b9⟩
          have HB9 : Hid (Below w.heap.size w w9) := HB8.out.trans (b9.mono HB8.out.size)
          clear b9
          go_wp2_with fail
          go_ret
          exact ⟨rfl, HB9.out⟩
        · have x0b : (x == 0) = false := by simp; omega
          have HG2 : Hid (Calls Tryd.prog 27 #[v7] w7 (CodePost w7 (9, [], 3 * j))) := by
            have := HG.out
            rw [q2 (by omega)] at this
            exact this
          obtain ⟨N, hN⟩ : ∃ N, N = 3 * j := ⟨_, rfl⟩
          rw [← hN] at HG2
          have hE : ((N : Int) == 3 * (j : Int)) = true := by simp; omega
          clear HG hN q1 q2 q3 q4 HX3 x3
          refine HG2.out.mono ?_
          rintro e w8 ⟨sl, rfl, hi, b8⟩
          dsimp only at hi ⊢
          obtain ⟨aq, cs, rfl, hs1, hs2, hs3⟩ := hi.shape
          have HB8 : Hid (Below w.heap.size w w8) := HB7.out.trans (b8.mono HB7.out.size)
          dsimp only [List.length_nil]
          clear hi b8 HG2 HB7 hs3
          go_wp2_with fail
          refine (HAW.out _ HB8.out).mono ?_
          rintro e w9 ⟨rfl, b9⟩
          have HB9 : Hid (Below w.heap.size w w9) := HB8.out.trans (b9.mono HB8.out.size)
          clear b9
          go_wp2_with fail
          go_ret
          exact ⟨rfl, HB9.out⟩
      have x0b : (x == 0) = false := by simp; omega
      have x51 : ¬ 51 < x := by omega
      have x0n : 1 ≤ x := by omega
      clear x0
      by_cases hs : (sigS (X.toNat : Int)).length ≠ 0
      · have HG2 : Hid (Calls Tryd.prog 27 #[v7] w7 (CodePost w7 (3, [], 3 * j))) := by
          have := HG.out
          rw [q3 HX3.out (by omega) (by omega) hs] at this
          exact this
        obtain ⟨N, hN⟩ : ∃ N, N = 3 * j := ⟨_, rfl⟩
        rw [← hN] at HG2
        have hE : ((N : Int) == 3 * (j : Int)) = true := by simp; omega
        clear HG hN q1 q2 q3 q4 HX3 x3
        refine HG2.out.mono ?_
        rintro e w8 ⟨sl, rfl, hi, b8⟩
        dsimp only at hi ⊢
        obtain ⟨aq, cs, rfl, hs1, hs2, hs3⟩ := hi.shape
        have HB8 : Hid (Below w.heap.size w w8) := HB7.out.trans (b8.mono HB7.out.size)
        dsimp only [List.length_nil]
        clear hi b8 HG2 HB7 hs3
        go_wp2_with fail
        refine (HAW.out _ HB8.out).mono ?_
        rintro e w9 ⟨rfl, b9⟩
        have HB9 : Hid (Below w.heap.size w w9) := HB8.out.trans (b9.mono HB8.out.size)
        clear b9
        go_wp2_with fail
        go_ret
        exact ⟨rfl, HB9.out⟩
      · replace hs := Classical.not_not.1 hs
        have HG2 : Hid (Calls Tryd.prog 27 #[v7] w7 (CodePost w7 (3, [], 3 * j + 1))) := by
          have := HG.out
          rw [q4 HX3.out (by omega) (by omega) hs] at this
          exact this
        obtain ⟨N, hN⟩ : ∃ N, N = 3 * j + 1 := ⟨_, rfl⟩
        rw [← hN] at HG2
        have hE : ((N : Int) == 3 * (j : Int)) = false := by simp; omega
        have hE2 : ((N : Int) == 3 * (j : Int) + 1) = true := by simp; omega
        have HSX : Hid ((sigS x).length = 0) := by unfold Hid; rw [← hXn]; exact hs
        clear hs
        clear HG hN q1 q2 q3 q4 HX3 x3
        refine HG2.out.mono ?_
        rintro e w8 ⟨sl, rfl, hi, b8⟩
        dsimp only at hi ⊢
        obtain ⟨aq, cs, rfl, hs1, hs2, hs3⟩ := hi.shape
        have HB8 : Hid (Below w.heap.size w w8) := HB7.out.trans (b8.mono HB7.out.size)
        dsimp only [List.length_nil]
        clear hi b8 HG2 HB7 hs3
        go_wp2_with fail
        refine (rsig_any x w8).mono ?_
        rintro e w6 ⟨rfl, b6⟩
        have HB6 : Hid (Below w.heap.size w w6) := HB8.out.trans (b6.mono HB8.out.size)
        unfold strV
        have hsz : (⟨(sigS x).toArray⟩ : ByteArray).size = 0 := by have := HSX.out; simp [ByteArray.size, this]
        generalize (⟨(sigS x).toArray⟩ : ByteArray) = ss at *
        have hsz2 : (ss.size : Int) = 0 := by omega
        clear b6
        go_wp2_with fail
        refine (HAW.out _ HB6.out).mono ?_
        rintro e w9 ⟨rfl, b9⟩
        have HB9 : Hid (Below w.heap.size w w9) := HB6.out.trans (b9.mono HB6.out.size)
        clear b9
        go_wp2_with fail
        go_ret
        exact ⟨rfl, HB9.out⟩
end Go.Proofs.YtgjjeghnfhjnnaaDoor
