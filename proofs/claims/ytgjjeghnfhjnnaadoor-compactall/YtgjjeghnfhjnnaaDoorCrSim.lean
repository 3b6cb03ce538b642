/-
  relictref06.simple: just numR.
-/
import Derived.Test.YtgjjeghnfhjnnaaDoorCrAll
import Derived.Test.YtgjjeghnfhjnnaaDoorCpX
import Derived.Test.YtgjjeghnfhjnnaaDoorNth
import Derived.Deep.RegionHeld3
import Derived.Deep.Cut
namespace Go.Proofs.YtgjjeghnfhjnnaaDoor
open Go.RowKit
set_option linter.unusedVariables false
set_option linter.unusedSimpArgs false

theorem andI_all : ∀ n : Fin 256, bits .and .i64 (n.val : Int) 7 = ((n.val % 8 : Nat) : Int) ∧ bits .and .i64 (n.val : Int) 24 = ((n.val / 8 % 4 * 8 : Nat) : Int) := by decide +kernel
theorem and_i64 (n : Nat) (h : n < 256) : bits .and .i64 (n : Int) 7 = ((n % 8 : Nat) : Int) ∧ bits .and .i64 (n : Int) 24 = ((n / 8 % 4 * 8 : Nat) : Int) := andI_all ⟨n, h⟩
/-- What simple answers. -/
def SmPost (w : World) (p : Nat) (R : Rd) (e : Ending) (w' : World) : Prop :=
  e = .returned (.tuple #[agV R.t R.n (.slice none 0 0), .int .i64 (if R.e = 0 then ((p + R.k : Nat) : Int) else 0), .int .i64 R.e]) ∧ Below w.heap.size w w'
theorem SmPost.bad {w : World} {p : Nat} {k : Int} {w' : World} (hk : k ≠ 0) (ho : Below w.heap.size w w') : SmPost w p (Rd.bad k) (.returned (.tuple #[agV 0 0 (.slice none 0 0), .int .i64 0, .int .i64 k])) w' :=
  ⟨by have : (if (Rd.bad k).e = 0 then ((p + (Rd.bad k).k : Nat) : Int) else 0) = 0 := if_neg hk
      rw [this]; rfl, ho⟩
/-- What is told of a number whose bytes are all there. -/
def numV (l : List UInt8) (p f n : Nat) : Rd := if okN1 ((f % 8 : Nat) : Int) (valN f ((l.drop (p + 1)).take n)) = true ∧ sglB ((f % 8 : Nat) : Int) (valN f ((l.drop (p + 1)).take n)) = (l.drop p).take (1 + n) then ⟨0, ((f % 8 : Nat) : Int), valN f ((l.drop (p + 1)).take n), 1 + n⟩ else Rd.bad 4
theorem num_split (l : List UInt8) (p f : Nat) (hp : p < l.length) (hf : f = (l.getD p 0).toNat) :
    numR (l.drop p) = if (szF f).2 = false then Rd.bad 4 else if (l.length : Int) - (p : Int) - 1 < (szF f).1 then Rd.bad 3 else numV l p f (szF f).1.toNat := by
  have h0 : (l.drop p).getD 0 0 = l.getD p 0 := by simp [List.getD]
  have h1 : (l.drop p).drop 1 = l.drop (p + 1) := by rw [List.drop_drop]
  have h2 : (l.drop p).length = l.length - p := by simp
  unfold numR numV
  rw [if_neg (by omega), h0, ← hf, h1]
  by_cases h : (szF f).2 = false
  · rw [if_pos h, if_pos h]
  · rw [if_neg h, if_neg h]
    by_cases h3 : (l.length : Int) - (p : Int) - 1 < (szF f).1
    · rw [if_pos h3, if_pos (by omega)]
    · rw [if_neg h3, if_neg (by omega)]

set_option maxRecDepth 100000 in
set_option maxHeartbeats 8000000 in
theorem simple_any (w : World) (v : Value) (l : List UInt8) (p : Nat) (hv : By w v l) (hp : p ≤ l.length) :
    Calls Tryd.prog 40 #[v, .int .i64 (p : Int)] w (SmPost w p (numR (l.drop p))) := by
  obtain ⟨R, hR⟩ : ∃ R, numR (l.drop p) = R := ⟨_, rfl⟩
  have HR : Hid (numR (l.drop p) = R) := hR
  rw [hR]; clear hR
  obtain ⟨av, cap, rfl, hc1, hc2, hc3⟩ := hv.shape
  have bA := (Below.refl w.heap.size w).alloc (Nat.le_refl _) (.cells #[.int .i64 0, .int .i64 0, .slice none 0 0] 25)
  have HB1 : Hid (Below w.heap.size w (w.alloc (.cells #[.int .i64 0, .int .i64 0, .slice none 0 0] 25))) := bA
  have HX1 : Hid (BxA (w.alloc (.cells #[.int .i64 0, .int .i64 0, .slice none 0 0] 25)) w.heap.size 0 0 (.slice none 0 0)) := BxA.new w 0 0 _
  have HV1 : Hid (By (w.alloc (.cells #[.int .i64 0, .int .i64 0, .slice none 0 0] 25)) (.slice av l.length cap) l) := hv.under bA
  clear bA hv
  by_cases hpl : p = l.length
  · have HE : Hid (R = Rd.bad 3) := by unfold Hid; rw [← HR.out]; unfold numR; rw [if_pos (by simp; omega)]
    have hpi : (l.length : Int) ≤ (p : Int) := by omega
    clear HR
    go_enter Tryd.func40, Tryd.ntmps40
    go_wp2_with fail
    refine bodyPost_ret (results_a3 rfl _ _ w.heap.size 0 0 (.slice none 0 0) rfl HX1.out) rfl ?_
    rw [HE.out]
    exact SmPost.bad (by decide) HB1.out
  have hpl' : p < l.length := by omega
  have hpi : ¬ (l.length : Int) ≤ (p : Int) := by omega
  obtain ⟨f, hf⟩ : ∃ f, f = (l.getD p 0).toNat := ⟨_, rfl⟩
  have hf2 : f < 256 := by rw [hf]; exact UInt8.toNat_lt _
  obtain ⟨a7, a24⟩ := and_i64 f hf2
  have HNS : Hid (R = if (szF f).2 = false then Rd.bad 4 else if (l.length : Int) - (p : Int) - 1 < (szF f).1 then Rd.bad 3 else numV l p f (szF f).1.toNat) := by
    unfold Hid; rw [← HR.out]; exact num_split l p f hpl' hf
  obtain ⟨b, off, rfl, hlt, hcell⟩ := HV1.out.at p hpl'
  have hcz := hcell p hpl'
  rw [← hf] at hcz
  have HCELL : Hid (∀ i, i < l.length → (w.alloc (.cells #[.int .i64 0, .int .i64 0, .slice none 0 0] 25)).cell? ⟨b, off + i, none⟩ = some (.int .u8 ((l.getD i 0).toNat : Int))) := hcell
  have hpc : (p : Int) < (cap : Int) := by omega
  have hpl2 : (p : Int) < (l.length : Int) := by omega
  obtain ⟨tg, htg⟩ : ∃ t : Int, t = ((f % 8 : Nat) : Int) := ⟨_, rfl⟩
  have HTG : Hid (tg = ((f % 8 : Nat) : Int)) := htg
  rw [← htg] at a7
  have ht0 : 0 ≤ tg := by omega
  have ht8 : tg < 8 := by omega
  have hx0 : 0 ≤ (f : Int) := by omega
  have hx1 : (f : Int) < 256 := by omega
  have HFF : Hid (f = (l.getD p 0).toNat) := hf
  clear hf HR hcell hpl
  obtain ⟨e0, e1, e2, f0, f1, f2⟩ := HX1.out.facts
  have HVB : Hid (By w (.slice (some ⟨b, off, none⟩) l.length cap) l → True) := fun _ => trivial
  generalize hgd : w.heap.size = g0 at *
  generalize hw1d : w.alloc (.cells #[.int .i64 0, .int .i64 0, .slice none 0 0] 25) = w1 at *
  have hw1s : g0 < w1.heap.size := (Array.getElem?_eq_some_iff.1 HX1.out).1

  by_cases c1 : (5 : Int) < tg
  · have HE : Hid (R = Rd.bad 4) := by unfold Hid; rw [HNS.out, if_pos (by unfold szF; rw [if_pos (by omega)])]
    clear HNS htg
    go_enter Tryd.func40, Tryd.ntmps40
    go_wp2_with fail
    try simp only [Exit.inBlock, Exit.then]
    refine bodyPost_ret (results_a3 rfl _ _ g0 0 0 (.slice none 0 0) rfl (HX1.out.set 0 0 _)) rfl ?_
    rw [HE.out]
    refine SmPost.bad (by decide) ?_
    rw [hgd]
    exact Below.setA HB1.out (Nat.le_refl _) _ _ _
  by_cases c2 : f / 8 % 2 = 0
  · obtain ⟨A, hA⟩ : ∃ A, bits .and .i64 (f : Int) 24 = A := ⟨_, rfl⟩
    have hA8 : (A == 8) = false := by simp; omega
    have hA24 : (A == 24) = false := by simp; omega
    rw [hA] at a24
    clear a24
    have hsz : szF f = (((0 : Nat) : Int), true) := by unfold szF; rw [if_neg (by omega), if_pos c2]; rfl
    have hni : ((0 : Nat) : Int) = 0 := by omega
    have HNV : Hid (R = if (l.length : Int) - (p : Int) - 1 < 0 then Rd.bad 3 else numV l p f 0) := by
      unfold Hid
      rw [HNS.out, hsz]
      dsimp only
      rw [if_neg (by decide), Int.toNat_natCast, hni]
    by_cases hC : (l.length : Int) - (p : Int) - 1 < 0
    · exfalso; omega
    have HNW : Hid (R = numV l p f 0) := by unfold Hid; rw [HNV.out, if_neg hC]
    obtain ⟨r, hr⟩ : ∃ r, (l.drop (p + 1)).take 0 = r := ⟨_, rfl⟩
    have hrl : r.length = 0 := by rw [← hr]; simp <;> omega
    have hFol : Fol f r := ⟨by rw [hsz], by rw [hsz, hrl]⟩
    have hrg : ∀ k, k < 0 → (r.getD k 0).toNat = (l.getD (p + 1 + k) 0).toNat := fun k hk => by rw [← hr, getD_take _ _ _ hk, getD_drop]
    have HBD : Hid (∀ k, k < 0 → -36028797018963968 ≤ accN (begN f r) (r.take k) ∧ accN (begN f r) (r.take k) < 36028797018963968) := fun k hk => beg_bd hFol hf2 k (by omega)
    have HST : Hid (∀ k, k < 0 → accN (begN f r) (r.take (k + 1)) = accN (begN f r) (r.take k) * 256 + ((l.getD (p + 1 + k) 0).toNat : Int)) := by
      intro k hk
      rw [List.take_succ_eq_append_getElem (show k < r.length by omega), acc_snoc, ← hrg k hk, List.getD_eq_getElem?_getD, List.getElem?_eq_getElem (show k < r.length by omega)]
      rfl
    obtain ⟨V, hV⟩ : ∃ V, valN f r = V := ⟨_, rfl⟩
    have HV : Hid (accN (begN f r) (r.take 0) = V) := by unfold Hid; rw [← hV, ← hrl, List.take_length]; rfl
    have hVb := val_bd hFol hf2
    rw [hV] at hVb
    have HBG : Hid (begN f r = ((f : Int) / 16)) := by
      unfold Hid begN
      rw [if_pos c2]
      omega
    have HNX : Hid (R = if okN1 tg V = true ∧ sglB tg V = (l.drop p).take (1 + 0) then ⟨0, tg, V, 1 + 0⟩ else Rd.bad 4) := by
      unfold Hid
      rw [HNW.out]
      unfold numV
      rw [hr, hV, ← htg]
    have hz0 : accN (begN f r) (r.take 0) = begN f r := rfl
    generalize begN f r = B at *
    clear HNS htg HNV hsz hFol hrg hr hV HNW hrl
    go_enter Tryd.func40, Tryd.ntmps40
    go_wp2_with fail
    go_loopg [10, 11] 0 (fun gk s10 s11 wr => ∃ (k : Nat) (z : Int), k + gk = 0 ∧ s10 = .int .i64 z ∧ s11 = .int .i64 (k : Int) ∧ w1 = wr ∧ Hid ((k = 0 ∧ z = ((f : Int) / 16)) ∨ (0 < k ∧ z = accN B (r.take k))))
    case atStart => exact ⟨0, _, by omega, rfl, rfl, rfl, .inl ⟨rfl, rfl⟩⟩
    case round =>
      obtain ⟨k, z, hk, rfl, rfl, rfl, HZ⟩ := hrel
      cases gk with
      | zero =>
        obtain rfl : k = 0 := by omega
        have hzV : z = V := by
          rcases HZ.out with ⟨h1, h2⟩ | ⟨h1, h2⟩
          · rw [h2, ← HV.out, hz0]; exact HBG.out.symm
          · rw [h2]; exact HV.out
        subst hzV
        clear HZ HV HST HBD HBG hz0
        have ht5 : tg ≤ 5 := by omega
        have ht70 : (0 : Int) ≤ tg := by omega
        obtain ⟨D, hD⟩ : ∃ D, decide (okN1 tg z = true ∧ sglB tg z = (l.drop p).take (1 + 0)) = D := ⟨_, rfl⟩
        have HD : Hid ((D = true → R = ⟨0, tg, z, 1 + 0⟩) ∧ (D = false → R = Rd.bad 4)) := by
          unfold Hid
          rw [HNX.out, ← hD]
          constructor
          · intro h; rw [if_pos (of_decide_eq_true h)]
          · intro h; rw [if_neg (of_decide_eq_false h)]
        obtain ⟨q, hq⟩ : ∃ q, q = p + 1 + 0 := ⟨_, rfl⟩
        have hqe1 : (p : Int) + 1 = (q : Int) := by omega
        have hwq : IntKind.i64.wrap (q : Int) = (q : Int) := by rw [IntKind.wrap_i64]; omega
        have hqp : q - p = 1 + 0 := by omega
        have HQQ : Hid (p + (1 + 0) = q) := by unfold Hid; omega
        have hq1 : (p : Int) ≤ (q : Int) := by omega
        have hq2 : (q : Int) ≤ (l.length : Int) := by omega
        have hq3 : (q : Int) ≤ (cap : Int) := by omega
        have bA := (Below.refl w1.heap.size w1).alloc (Nat.le_refl _) (.cells #[.int .i64 tg, .int .i64 z, .slice none 0 0] 25)
        have HX2 : Hid (BxA (w1.alloc (.cells #[.int .i64 tg, .int .i64 z, .slice none 0 0] 25)) g0 0 0 (.slice none 0 0)) := HX1.out.under bA
        have HA2 : Hid (BxA (w1.alloc (.cells #[.int .i64 tg, .int .i64 z, .slice none 0 0] 25)) w1.heap.size tg z (.slice none 0 0)) := BxA.new _ _ _ _
        have HB2 : Hid (Below g0 w (w1.alloc (.cells #[.int .i64 tg, .int .i64 z, .slice none 0 0] 25))) := HB1.out.trans (bA.mono (by omega))
        have HV2 : Hid (By (w1.alloc (.cells #[.int .i64 tg, .int .i64 z, .slice none 0 0] 25)) (.slice (some ⟨b, off, none⟩) l.length cap) l) := HV1.out.under bA
        obtain ⟨ob, hob⟩ : ∃ ob, ob = if cap = p then off else off + p := ⟨_, rfl⟩
        have hob2 : (if cap = p then some (⟨b, off, none⟩ : Addr) else some ⟨b, off + p, none⟩) = some ⟨b, ob, none⟩ := by rw [hob]; split <;> rfl
        have hsub := HV2.out.sub p q ob (by omega) (by omega) hob
        obtain ⟨S2, hS2⟩ : ∃ S2 : ByteArray, S2 = ⟨((l.drop p).take (q - p)).toArray⟩ := ⟨_, rfl⟩
        obtain ⟨S1, hS1⟩ : ∃ S1 : ByteArray, S1 = ⟨(sglB tg z).toArray⟩ := ⟨_, rfl⟩
        have hSS : (S1.toList == S2.toList) = decide (sglB tg z = (l.drop p).take (1 + 0)) := by rw [hS1, hS2, bytes_eq, hqp]
        have HTX : Hid (∀ W, Below (w1.alloc (.cells #[.int .i64 tg, .int .i64 z, .slice none 0 0] 25)).heap.size (w1.alloc (.cells #[.int .i64 tg, .int .i64 z, .slice none 0 0] 25)) W → (convert 22 9 (.slice (some ⟨b, ob, none⟩) (q - p) (cap - p))).run Tryd.prog W = .ok (.string S2) W) := fun W hW => by
          have := (hsub.under hW).text
          rw [hS2]; exact this
        have HCK : Hid (∀ W, Calls Tryd.prog 12 #[.agg #[.int .i64 tg, .int .i64 z, .slice none 0 0]] W (CxPost W (okN1 tg z))) := fun W => by
          have := rcx_any W ⟨tg, z, none, 0, 0⟩ [] (fit_mk ht70 (by omega) hVb) (Rw3.nil _) rfl
          rw [show El.ok ⟨tg, z, none, 0, 0⟩ [] = okN1 tg z by unfold El.ok El.ok1; dsimp only; rw [if_neg (by omega)]; simp] at this
          exact this
        have HPT : Hid (okN1 tg z = true → ∀ W, Calls Tryd.prog 38 #[.agg #[.int .i64 tg, .int .i64 z, .slice none 0 0]] W (RnPost W (sglB tg z))) := fun ho W => rput_sgl W tg z none 0 0 ho
        have HS1 : Hid (S1 = ⟨(sglB tg z).toArray⟩) := hS1
        skip
        clear hsub hob hS1 hS2 HNX HX1 HV1 hq hqp HCELL HTG HFF hni
        go_wp2_with fail
        generalize w1.alloc (.cells #[.int .i64 tg, .int .i64 z, .slice none 0 0] 25) = w2 at *
        generalize w1.heap.size = gx at *
        have HCL : Hid (∀ W, Below w2.heap.size w2 W → W.cell? ⟨gx, 0, none⟩ = some (.int .i64 tg) ∧ W.cell? ⟨gx, 1, none⟩ = some (.int .i64 z) ∧ W.cell? ⟨gx, 2, none⟩ = some (.slice none 0 0)) := fun W hW => by
          obtain ⟨c0, c1, c2, -⟩ := (HA2.out.under hW).facts
          exact ⟨c0, c1, c2⟩
        have hw2 := HB2.out.size
        go_cut [131] from 115 (fun s wc => s = .bool (!D) ∧ Below w2.heap.size w2 wc)
        case first =>
          obtain ⟨ok, hok⟩ : ∃ ok, okN1 tg z = ok := ⟨_, rfl⟩
          rw [hok] at HCK HPT hD
          cases ok
          · have hDf : D = false := by rw [← hD]; simp
            subst hDf
            clear HD HPT HTX hD hSS
            refine wp_region_noPanic ?_
            refine wp_region_held_drew (S := (fun W' => W'.cell? ⟨gx, 0, none⟩ = some (.int .i64 tg) ∧ W'.cell? ⟨gx, 1, none⟩ = some (.int .i64 z) ∧ W'.cell? ⟨gx, 2, none⟩ = some (.slice none 0 0))) (by kernel_rfl) ?_ (fun hHeld => ?_)
            · exact HCL.out _ ((Below.refl _ _).drew)
            refine wpAnyH_take (i := 0) (v := ?_) (opNth_ops rfl) (by kernel_rfl) (by kernel_rfl) (by kernel_rfl) (fun _ _ _ h => h) (Or.inl ⟨by rfl, ?_⟩) (by assumption) ?_
            rotate_left
            · intro wq hSq
              go_simp
              try with_reducible rfl
            try simp only [Act.put, List.setIfInBounds_toArray, List.set_cons_zero, List.set_cons_succ]
            refine wpAnyH_ready (rs := [1]) (by kernel_rfl) (by simp) ?_
            refine AllReadyH.cons (opNth_ops rfl) (fun K hK => ?_) ?_
            rotate_left
            exact AllReadyH.nil
            go_simp
            go_at_call 12
            refine (HCK.out _).mono ?_
            rintro e x1 ⟨rfl, b1⟩
            have hk1 : Below w2.heap.size w2 x1 := ((Below.refl _ _).drew).trans (b1.mono (Nat.le_refl _))
            go_wp2_with fail
            refine hK.out _ _ ?_ (fun hHeld => ?_)
            · exact HCL.out _ hk1
            clear hK K
            try simp only [Act.put, List.setIfInBounds_toArray, List.set_cons_zero, List.set_cons_succ]
            refine wpAnyH_take (i := 2) (v := ?_) (opNth_ops rfl) (by kernel_rfl) (by kernel_rfl) (by kernel_rfl) (fun _ _ _ h => h) (Or.inl ⟨by rfl, ?_⟩) (by assumption) ?_
            rotate_left
            · intro wq hSq
              go_simp
              try with_reducible rfl
            try simp only [Act.put, List.setIfInBounds_toArray, List.set_cons_zero, List.set_cons_succ]
            refine wpAnyH_take (i := 3) (v := ?_) (opNth_ops rfl) (by kernel_rfl) (by kernel_rfl) (by kernel_rfl) (fun _ _ _ h => h) (Or.inl ⟨by rfl, ?_⟩) (by assumption) ?_
            rotate_left
            · intro wq hSq
              go_simp
              try with_reducible rfl
            try simp only [Act.put, List.setIfInBounds_toArray, List.set_cons_zero, List.set_cons_succ]
            refine wpAnyH_take (i := 4) (v := undef) (opNth_ops rfl) (by kernel_rfl) (by kernel_rfl) (by kernel_rfl) (fun _ _ _ h => h) (Or.inr ⟨by rfl, rfl⟩) (by assumption) ?_
            try simp only [Act.put, List.setIfInBounds_toArray, List.set_cons_zero, List.set_cons_succ]
            refine wpAnyH_take (i := 5) (v := undef) (opNth_ops rfl) (by kernel_rfl) (by kernel_rfl) (by kernel_rfl) (fun _ _ _ h => h) (Or.inr ⟨by rfl, rfl⟩) (by assumption) ?_
            try simp only [Act.put, List.setIfInBounds_toArray, List.set_cons_zero, List.set_cons_succ]
            refine wpAnyH_take (i := 6) (v := undef) (opNth_ops rfl) (by kernel_rfl) (by kernel_rfl) (by kernel_rfl) (fun _ _ _ h => h) (Or.inr ⟨by rfl, rfl⟩) (by assumption) ?_
            try simp only [Act.put, List.setIfInBounds_toArray, List.set_cons_zero, List.set_cons_succ]
            refine wpAnyH_take (i := 7) (v := undef) (opNth_ops rfl) (by kernel_rfl) (by kernel_rfl) (by kernel_rfl) (fun _ _ _ h => h) (Or.inr ⟨by rfl, rfl⟩) (by assumption) ?_
            try simp only [Act.put, List.setIfInBounds_toArray, List.set_cons_zero, List.set_cons_succ]
            refine wpAnyH_take (i := 8) (v := undef) (opNth_ops rfl) (by kernel_rfl) (by kernel_rfl) (by kernel_rfl) (fun _ _ _ h => h) (Or.inr ⟨by rfl, rfl⟩) (by assumption) ?_
            try simp only [Act.put, List.setIfInBounds_toArray, List.set_cons_zero, List.set_cons_succ]
            refine wpAnyH_take (i := 9) (v := undef) (opNth_ops rfl) (by kernel_rfl) (by kernel_rfl) (by kernel_rfl) (fun _ _ _ h => h) (Or.inr ⟨by rfl, rfl⟩) (by assumption) ?_
            try simp only [Act.put, List.setIfInBounds_toArray, List.set_cons_zero, List.set_cons_succ]
            refine wpAnyH_take (i := 10) (v := undef) (opNth_ops rfl) (by kernel_rfl) (by kernel_rfl) (by kernel_rfl) (fun _ _ _ h => h) (Or.inr ⟨by rfl, rfl⟩) (by assumption) ?_
            try simp only [Act.put, List.setIfInBounds_toArray, List.set_cons_zero, List.set_cons_succ]
            refine wpAnyH_take (i := 11) (v := undef) (opNth_ops rfl) (by kernel_rfl) (by kernel_rfl) (by kernel_rfl) (fun _ _ _ h => h) (Or.inr ⟨by rfl, rfl⟩) (by assumption) ?_
            try simp only [Act.put, List.setIfInBounds_toArray, List.set_cons_zero, List.set_cons_succ]
            refine wpAnyH_take (i := 12) (v := undef) (opNth_ops rfl) (by kernel_rfl) (by kernel_rfl) (by kernel_rfl) (fun _ _ _ h => h) (Or.inr ⟨by rfl, rfl⟩) (by assumption) ?_
            try simp only [Act.put, List.setIfInBounds_toArray, List.set_cons_zero, List.set_cons_succ]
            refine wpAnyH_take (i := 13) (v := undef) (opNth_ops rfl) (by kernel_rfl) (by kernel_rfl) (by kernel_rfl) (fun _ _ _ h => h) (Or.inr ⟨by rfl, rfl⟩) (by assumption) ?_
            try simp only [Act.put, List.setIfInBounds_toArray, List.set_cons_zero, List.set_cons_succ]
            refine wpAnyH_take (i := 14) (v := undef) (opNth_ops rfl) (by kernel_rfl) (by kernel_rfl) (by kernel_rfl) (fun _ _ _ h => h) (Or.inr ⟨by rfl, rfl⟩) (by assumption) ?_
            try simp only [Act.put, List.setIfInBounds_toArray, List.set_cons_zero, List.set_cons_succ]
            refine wpAnyH_take (i := 15) (v := undef) (opNth_ops rfl) (by kernel_rfl) (by kernel_rfl) (by kernel_rfl) (fun _ _ _ h => h) (Or.inr ⟨by rfl, rfl⟩) (by assumption) ?_
            try simp only [Act.put, List.setIfInBounds_toArray, List.set_cons_zero, List.set_cons_succ]
            refine wpAnyH_take (i := 16) (v := ?_) (opNth_ops rfl) (by kernel_rfl) (by kernel_rfl) (by kernel_rfl) (fun _ _ _ h => h) (Or.inl ⟨by rfl, ?_⟩) (by assumption) ?_
            rotate_left
            · intro wq hSq
              go_simp
              try with_reducible rfl
            try simp only [Act.put, List.setIfInBounds_toArray, List.set_cons_zero, List.set_cons_succ]
            refine wpAnyH_done (by kernel_rfl) ?_ _
            refine NoPanic.normal ?_
            go_wp2_with fail
            go_meet
            case rel => exact ⟨rfl, hk1⟩
          · have hDD : (S1.toList == S2.toList) = D := by rw [hSS, ← hD]; simp
            have HPT2 := HPT.out rfl
            have HPT3 : Hid (∀ W, Calls Tryd.prog 38 #[.agg #[.int .i64 tg, .int .i64 z, .slice none 0 0]] W (RnPost W (sglB tg z))) := HPT2
            clear HD hD hSS HPT HPT2
            refine wp_region_noPanic ?_
            refine wp_region_held_drew (S := (fun W' => W'.cell? ⟨gx, 0, none⟩ = some (.int .i64 tg) ∧ W'.cell? ⟨gx, 1, none⟩ = some (.int .i64 z) ∧ W'.cell? ⟨gx, 2, none⟩ = some (.slice none 0 0))) (by kernel_rfl) ?_ (fun hHeld => ?_)
            · exact HCL.out _ ((Below.refl _ _).drew)
            refine wpAnyH_take (i := 0) (v := ?_) (opNth_ops rfl) (by kernel_rfl) (by kernel_rfl) (by kernel_rfl) (fun _ _ _ h => h) (Or.inl ⟨by rfl, ?_⟩) (by assumption) ?_
            rotate_left
            · intro wq hSq
              go_simp
              try with_reducible rfl
            try simp only [Act.put, List.setIfInBounds_toArray, List.set_cons_zero, List.set_cons_succ]
            refine wpAnyH_ready (rs := [1]) (by kernel_rfl) (by simp) ?_
            refine AllReadyH.cons (opNth_ops rfl) (fun K hK => ?_) ?_
            rotate_left
            exact AllReadyH.nil
            go_simp
            go_at_call 12
            refine (HCK.out _).mono ?_
            rintro e x1 ⟨rfl, b1⟩
            have hk1 : Below w2.heap.size w2 x1 := ((Below.refl _ _).drew).trans (b1.mono (Nat.le_refl _))
            have tx1 := HTX.out x1 hk1
            go_wp2_with fail
            refine hK.out _ _ ?_ (fun hHeld => ?_)
            · exact HCL.out _ hk1
            clear hK K
            try simp only [Act.put, List.setIfInBounds_toArray, List.set_cons_zero, List.set_cons_succ]
            refine wpAnyH_take (i := 2) (v := ?_) (opNth_ops rfl) (by kernel_rfl) (by kernel_rfl) (by kernel_rfl) (fun _ _ _ h => h) (Or.inl ⟨by rfl, ?_⟩) (by assumption) ?_
            rotate_left
            · intro wq hSq
              go_simp
              try with_reducible rfl
            try simp only [Act.put, List.setIfInBounds_toArray, List.set_cons_zero, List.set_cons_succ]
            refine wpAnyH_take (i := 3) (v := ?_) (opNth_ops rfl) (by kernel_rfl) (by kernel_rfl) (by kernel_rfl) (fun _ _ _ h => h) (Or.inl ⟨by rfl, ?_⟩) (by assumption) ?_
            rotate_left
            · intro wq hSq
              go_simp
              try with_reducible rfl
            try simp only [Act.put, List.setIfInBounds_toArray, List.set_cons_zero, List.set_cons_succ]
            refine wpAnyH_take (i := 4) (v := ?_) (opNth_ops rfl) (by kernel_rfl) (by kernel_rfl) (by kernel_rfl) (fun _ _ _ h => h) (Or.inl ⟨by rfl, ?_⟩) (by assumption) ?_
            rotate_left
            · intro wq hSq
              go_simp
              try with_reducible rfl
            try simp only [Act.put, List.setIfInBounds_toArray, List.set_cons_zero, List.set_cons_succ]
            refine wpAnyH_take (i := 7) (v := ?_) (opNth_ops rfl) (by kernel_rfl) (by kernel_rfl) (by kernel_rfl) (fun _ _ _ h => h) (Or.inl ⟨by rfl, ?_⟩) (by assumption) ?_
            rotate_left
            · intro wq hSq
              go_simp
              try with_reducible rfl
            try simp only [Act.put, List.setIfInBounds_toArray, List.set_cons_zero, List.set_cons_succ]
            refine wpAnyH_take (i := 8) (v := ?_) (opNth_ops rfl) (by kernel_rfl) (by kernel_rfl) (by kernel_rfl) (fun _ _ _ h => h) (Or.inl ⟨by rfl, ?_⟩) (by assumption) ?_
            rotate_left
            · intro wq hSq
              go_simp
              try with_reducible rfl
            try simp only [Act.put, List.setIfInBounds_toArray, List.set_cons_zero, List.set_cons_succ]
            refine wpAnyH_take (i := 9) (v := ?_) (opNth_ops rfl) (by kernel_rfl) (by kernel_rfl) (by kernel_rfl) (fun _ _ _ h => h) (Or.inl ⟨by rfl, ?_⟩) (by assumption) ?_
            rotate_left
            · intro wq hSq
              go_simp
              try with_reducible rfl
            try simp only [Act.put, List.setIfInBounds_toArray, List.set_cons_zero, List.set_cons_succ]
            refine wpAnyH_take (i := 10) (v := ?_) (opNth_ops rfl) (by kernel_rfl) (by kernel_rfl) (by kernel_rfl) (fun _ _ _ h => h) (Or.inl ⟨by rfl, ?_⟩) (by assumption) ?_
            rotate_left
            · intro wq hSq
              go_simp
              try with_reducible rfl
            try simp only [Act.put, List.setIfInBounds_toArray, List.set_cons_zero, List.set_cons_succ]
            refine wpAnyH_take (i := 11) (v := ?_) (opNth_ops rfl) (by kernel_rfl) (by kernel_rfl) (by kernel_rfl) (fun _ _ _ h => h) (Or.inl ⟨by rfl, ?_⟩) (by assumption) ?_
            rotate_left
            · intro wq hSq
              go_simp
              try with_reducible rfl
            try simp only [Act.put, List.setIfInBounds_toArray, List.set_cons_zero, List.set_cons_succ]
            refine wpAnyH_take (i := 12) (v := ?_) (opNth_ops rfl) (by kernel_rfl) (by kernel_rfl) (by kernel_rfl) (fun _ _ _ h => h) (Or.inl ⟨by rfl, ?_⟩) (by assumption) ?_
            rotate_left
            · intro wq hSq
              go_simp
              try with_reducible rfl
            try simp only [Act.put, List.setIfInBounds_toArray, List.set_cons_zero, List.set_cons_succ]
            refine wpAnyH_take (i := 13) (v := ?_) (opNth_ops rfl) (by kernel_rfl) (by kernel_rfl) (by kernel_rfl) (fun _ _ _ h => h) (Or.inl ⟨by rfl, ?_⟩) (by assumption) ?_
            rotate_left
            · intro wq hSq
              go_simp
              try with_reducible rfl
            try simp only [Act.put, List.setIfInBounds_toArray, List.set_cons_zero, List.set_cons_succ]
            refine wpAnyH_ready (rs := [5, 14]) (by kernel_rfl) (by simp) ?_
            refine AllReadyH.cons (opNth_ops rfl) (fun K hK => ?_) ?_
            · go_simp
              go_at_call 38
              refine (HPT3.out _).mono ?_
              rintro e x2 ⟨v2, rfl, o2, b2⟩
              have hk2 : Below w2.heap.size w2 x2 := hk1.trans (b2.mono hk1.size)
              obtain ⟨a2, k2, rfl, -⟩ := o2.by.shape
              have t2 := o2.by.text
              rw [← HS1.out] at t2
              have tx2 := HTX.out x2 hk2
              go_wp2_with fail
              refine hK.out _ _ ?_ (fun hHeld => ?_)
              · exact HCL.out _ hk2
              clear hK K
              try simp only [Act.put, List.setIfInBounds_toArray, List.set_cons_zero, List.set_cons_succ]
              refine wpAnyH_ready (rs := [6, 14]) (by kernel_rfl) (by simp) ?_
              refine AllReadyH.cons (opNth_ops rfl) (fun K hK => ?_) ?_
              · go_simp
                refine hK.out _ _ ?_ (fun hHeld => ?_)
                · exact HCL.out _ hk2
                clear hK K
                try simp only [Act.put, List.setIfInBounds_toArray, List.set_cons_zero, List.set_cons_succ]
                refine wpAnyH_ready (rs := [14]) (by kernel_rfl) (by simp) ?_
                refine AllReadyH.cons (opNth_ops rfl) (fun K hK => ?_) ?_
                rotate_left
                exact AllReadyH.nil
                go_simp
                refine hK.out _ _ ?_ (fun hHeld => ?_)
                · exact HCL.out _ hk2
                clear hK K
                try simp only [Act.put, List.setIfInBounds_toArray, List.set_cons_zero, List.set_cons_succ]
                refine wpAnyH_take (i := 15) (v := ?_) (opNth_ops rfl) (by kernel_rfl) (by kernel_rfl) (by kernel_rfl) (fun _ _ _ h => h) (Or.inl ⟨by rfl, ?_⟩) (by assumption) ?_
                rotate_left
                · intro wq hSq
                  go_simp
                  try with_reducible rfl
                try simp only [Act.put, List.setIfInBounds_toArray, List.set_cons_zero, List.set_cons_succ]
                refine wpAnyH_take (i := 16) (v := ?_) (opNth_ops rfl) (by kernel_rfl) (by kernel_rfl) (by kernel_rfl) (fun _ _ _ h => h) (Or.inl ⟨by rfl, ?_⟩) (by assumption) ?_
                rotate_left
                · intro wq hSq
                  go_simp
                  try with_reducible rfl
                try simp only [Act.put, List.setIfInBounds_toArray, List.set_cons_zero, List.set_cons_succ]
                refine wpAnyH_done (by kernel_rfl) ?_ _
                refine NoPanic.normal ?_
                go_wp2_with fail
                go_meet
                case rel => exact ⟨rfl, hk2⟩
              refine AllReadyH.cons (opNth_ops rfl) (fun K hK => ?_) ?_
              · go_simp
                refine hK.out _ _ ?_ (fun hHeld => ?_)
                · exact HCL.out _ hk2
                clear hK K
                try simp only [Act.put, List.setIfInBounds_toArray, List.set_cons_zero, List.set_cons_succ]
                refine wpAnyH_ready (rs := [6]) (by kernel_rfl) (by simp) ?_
                refine AllReadyH.cons (opNth_ops rfl) (fun K hK => ?_) ?_
                rotate_left
                exact AllReadyH.nil
                go_simp
                refine hK.out _ _ ?_ (fun hHeld => ?_)
                · exact HCL.out _ hk2
                clear hK K
                try simp only [Act.put, List.setIfInBounds_toArray, List.set_cons_zero, List.set_cons_succ]
                refine wpAnyH_take (i := 15) (v := ?_) (opNth_ops rfl) (by kernel_rfl) (by kernel_rfl) (by kernel_rfl) (fun _ _ _ h => h) (Or.inl ⟨by rfl, ?_⟩) (by assumption) ?_
                rotate_left
                · intro wq hSq
                  go_simp
                  try with_reducible rfl
                try simp only [Act.put, List.setIfInBounds_toArray, List.set_cons_zero, List.set_cons_succ]
                refine wpAnyH_take (i := 16) (v := ?_) (opNth_ops rfl) (by kernel_rfl) (by kernel_rfl) (by kernel_rfl) (fun _ _ _ h => h) (Or.inl ⟨by rfl, ?_⟩) (by assumption) ?_
                rotate_left
                · intro wq hSq
                  go_simp
                  try with_reducible rfl
                try simp only [Act.put, List.setIfInBounds_toArray, List.set_cons_zero, List.set_cons_succ]
                refine wpAnyH_done (by kernel_rfl) ?_ _
                refine NoPanic.normal ?_
                go_wp2_with fail
                go_meet
                case rel => exact ⟨rfl, hk2⟩
              exact AllReadyH.nil
            refine AllReadyH.cons (opNth_ops rfl) (fun K hK => ?_) ?_
            · go_simp
              refine hK.out _ _ ?_ (fun hHeld => ?_)
              · exact HCL.out _ hk1
              clear hK K
              try simp only [Act.put, List.setIfInBounds_toArray, List.set_cons_zero, List.set_cons_succ]
              refine wpAnyH_ready (rs := [5]) (by kernel_rfl) (by simp) ?_
              refine AllReadyH.cons (opNth_ops rfl) (fun K hK => ?_) ?_
              rotate_left
              exact AllReadyH.nil
              go_simp
              go_at_call 38
              refine (HPT3.out _).mono ?_
              rintro e x2 ⟨v2, rfl, o2, b2⟩
              have hk2 : Below w2.heap.size w2 x2 := hk1.trans (b2.mono hk1.size)
              obtain ⟨a2, k2, rfl, -⟩ := o2.by.shape
              have t2 := o2.by.text
              rw [← HS1.out] at t2
              have tx2 := HTX.out x2 hk2
              go_wp2_with fail
              refine hK.out _ _ ?_ (fun hHeld => ?_)
              · exact HCL.out _ hk2
              clear hK K
              try simp only [Act.put, List.setIfInBounds_toArray, List.set_cons_zero, List.set_cons_succ]
              refine wpAnyH_ready (rs := [6]) (by kernel_rfl) (by simp) ?_
              refine AllReadyH.cons (opNth_ops rfl) (fun K hK => ?_) ?_
              rotate_left
              exact AllReadyH.nil
              go_simp
              refine hK.out _ _ ?_ (fun hHeld => ?_)
              · exact HCL.out _ hk2
              clear hK K
              try simp only [Act.put, List.setIfInBounds_toArray, List.set_cons_zero, List.set_cons_succ]
              refine wpAnyH_take (i := 15) (v := ?_) (opNth_ops rfl) (by kernel_rfl) (by kernel_rfl) (by kernel_rfl) (fun _ _ _ h => h) (Or.inl ⟨by rfl, ?_⟩) (by assumption) ?_
              rotate_left
              · intro wq hSq
                go_simp
                try with_reducible rfl
              try simp only [Act.put, List.setIfInBounds_toArray, List.set_cons_zero, List.set_cons_succ]
              refine wpAnyH_take (i := 16) (v := ?_) (opNth_ops rfl) (by kernel_rfl) (by kernel_rfl) (by kernel_rfl) (fun _ _ _ h => h) (Or.inl ⟨by rfl, ?_⟩) (by assumption) ?_
              rotate_left
              · intro wq hSq
                go_simp
                try with_reducible rfl
              try simp only [Act.put, List.setIfInBounds_toArray, List.set_cons_zero, List.set_cons_succ]
              refine wpAnyH_done (by kernel_rfl) ?_ _
              refine NoPanic.normal ?_
              go_wp2_with fail
              go_meet
              case rel => exact ⟨rfl, hk2⟩
            exact AllReadyH.nil
        case rest =>
          obtain ⟨rfl, hk⟩ := hcut
          have HXC : Hid (BxA wc g0 0 0 (.slice none 0 0)) := HX2.out.under hk
          have HAC : Hid (BxA wc gx tg z (.slice none 0 0)) := HA2.out.under hk
          have HBC : Hid (Below g0 w wc) := HB2.out.trans (hk.mono (by omega))
          obtain ⟨e0, e1, e2, f0, f1, f2⟩ := HXC.out.facts
          obtain ⟨p0, p1, p2, -⟩ := HAC.out.facts
          clear hk HCL HTX HCK HPT HX2 HA2 HB2 HV2
          cases D with
          | true =>
            have HE : Hid (R = ⟨0, tg, z, 1 + 0⟩) := HD.out.1 rfl
            go_wp2_with fail
            try simp only [Exit.inBlock, Exit.then]
            refine bodyPost_ret (results_a3 rfl _ _ g0 tg z (.slice none 0 0) rfl (HXC.out.set tg z _)) rfl ?_
            rw [HE.out]
            refine ⟨?_, by rw [hgd]; exact Below.setA HBC.out (Nat.le_refl _) _ _ _⟩
            dsimp only
            rw [if_pos rfl, HQQ.out]
            rfl
          | false =>
            have HE : Hid (R = Rd.bad 4) := HD.out.2 rfl
            go_wp2_with fail
            try simp only [Exit.inBlock, Exit.then]
            refine bodyPost_ret (results_a3 rfl _ _ g0 0 0 (.slice none 0 0) rfl (HXC.out.set 0 0 _)) rfl ?_
            rw [HE.out]
            refine SmPost.bad (by decide) ?_
            rw [hgd]
            exact Below.setA HBC.out (Nat.le_refl _) _ _ _
      | succ g =>
        omega
  have c2' : f / 8 % 2 = 1 := by omega
  by_cases c3 : f / 16 % 2 = 0
  · have a8 : bits .and .i64 (f : Int) 24 = 8 := by rw [a24]; omega
    clear a24
    by_cases c4 : tg = 1
    · subst c4
      have HE : Hid (R = Rd.bad 4) := by unfold Hid; rw [HNS.out, if_pos (by unfold szF; rw [if_neg (by omega), if_neg c2, if_pos c3]; simp; have := HTG.out; omega)]
      clear HNS htg
      go_enter Tryd.func40, Tryd.ntmps40
      go_wp2_with fail
      try simp only [Exit.inBlock, Exit.then]
      refine bodyPost_ret (results_a3 rfl _ _ g0 0 0 (.slice none 0 0) rfl (HX1.out.set 0 0 _)) rfl ?_
      rw [HE.out]
      refine SmPost.bad (by decide) ?_
      rw [hgd]
      exact Below.setA HB1.out (Nat.le_refl _) _ _ _
    have c4b : (tg == 1) = false := by simp [c4]
    have hsz : szF f = (((1 : Nat) : Int), true) := by unfold szF; rw [if_neg (by omega), if_neg c2, if_pos c3, decide_eq_true (by omega)]; rfl
    have hni : ((1 : Nat) : Int) = 1 := by omega
    have HNV : Hid (R = if (l.length : Int) - (p : Int) - 1 < 1 then Rd.bad 3 else numV l p f 1) := by
      unfold Hid
      rw [HNS.out, hsz]
      dsimp only
      rw [if_neg (by decide), Int.toNat_natCast, hni]
    by_cases hC : (l.length : Int) - (p : Int) - 1 < 1
    · have HE : Hid (R = Rd.bad 3) := by unfold Hid; rw [HNV.out, if_pos hC]
      clear HNS htg HNV hsz
      go_enter Tryd.func40, Tryd.ntmps40
      go_wp2_with fail
      try simp only [Exit.inBlock, Exit.then]
      refine bodyPost_ret (results_a3 rfl _ _ g0 0 0 (.slice none 0 0) rfl (HX1.out.set 0 0 _)) rfl ?_
      rw [HE.out]
      refine SmPost.bad (by decide) ?_
      rw [hgd]
      exact Below.setA HB1.out (Nat.le_refl _) _ _ _
    have HNW : Hid (R = numV l p f 1) := by unfold Hid; rw [HNV.out, if_neg hC]
    obtain ⟨r, hr⟩ : ∃ r, (l.drop (p + 1)).take 1 = r := ⟨_, rfl⟩
    have hrl : r.length = 1 := by rw [← hr]; simp <;> omega
    have hFol : Fol f r := ⟨by rw [hsz], by rw [hsz, hrl]⟩
    have hrg : ∀ k, k < 1 → (r.getD k 0).toNat = (l.getD (p + 1 + k) 0).toNat := fun k hk => by rw [← hr, getD_take _ _ _ hk, getD_drop]
    have HBD : Hid (∀ k, k < 1 → -36028797018963968 ≤ accN (begN f r) (r.take k) ∧ accN (begN f r) (r.take k) < 36028797018963968) := fun k hk => beg_bd hFol hf2 k (by omega)
    have HST : Hid (∀ k, k < 1 → accN (begN f r) (r.take (k + 1)) = accN (begN f r) (r.take k) * 256 + ((l.getD (p + 1 + k) 0).toNat : Int)) := by
      intro k hk
      rw [List.take_succ_eq_append_getElem (show k < r.length by omega), acc_snoc, ← hrg k hk, List.getD_eq_getElem?_getD, List.getElem?_eq_getElem (show k < r.length by omega)]
      rfl
    obtain ⟨V, hV⟩ : ∃ V, valN f r = V := ⟨_, rfl⟩
    have HV : Hid (accN (begN f r) (r.take 1) = V) := by unfold Hid; rw [← hV, ← hrl, List.take_length]; rfl
    have hVb := val_bd hFol hf2
    rw [hV] at hVb
    have HBG : Hid (begN f r = ((f : Int) / 32)) := by
      unfold Hid begN
      rw [if_neg c2, if_pos c3]
      omega
    have HNX : Hid (R = if okN1 tg V = true ∧ sglB tg V = (l.drop p).take (1 + 1) then ⟨0, tg, V, 1 + 1⟩ else Rd.bad 4) := by
      unfold Hid
      rw [HNW.out]
      unfold numV
      rw [hr, hV, ← htg]
    have hz0 : accN (begN f r) (r.take 0) = begN f r := rfl
    generalize begN f r = B at *
    clear HNS htg HNV hsz hFol hrg hr hV HNW hrl
    go_enter Tryd.func40, Tryd.ntmps40
    go_wp2_with fail
    go_loopg [10, 11] 1 (fun gk s10 s11 wr => ∃ (k : Nat) (z : Int), k + gk = 1 ∧ s10 = .int .i64 z ∧ s11 = .int .i64 (k : Int) ∧ w1 = wr ∧ Hid ((k = 0 ∧ z = ((f : Int) / 32)) ∨ (0 < k ∧ z = accN B (r.take k))))
    case atStart => exact ⟨0, _, by omega, rfl, rfl, rfl, .inl ⟨rfl, rfl⟩⟩
    case round =>
      obtain ⟨k, z, hk, rfl, rfl, rfl, HZ⟩ := hrel
      cases gk with
      | zero =>
        obtain rfl : k = 1 := by omega
        have hzV : z = V := by
          rcases HZ.out with ⟨h1, h2⟩ | ⟨h1, h2⟩
          · omega
          · rw [h2]; exact HV.out
        subst hzV
        clear HZ HV HST HBD HBG hz0
        have ht5 : tg ≤ 5 := by omega
        have ht70 : (0 : Int) ≤ tg := by omega
        obtain ⟨D, hD⟩ : ∃ D, decide (okN1 tg z = true ∧ sglB tg z = (l.drop p).take (1 + 1)) = D := ⟨_, rfl⟩
        have HD : Hid ((D = true → R = ⟨0, tg, z, 1 + 1⟩) ∧ (D = false → R = Rd.bad 4)) := by
          unfold Hid
          rw [HNX.out, ← hD]
          constructor
          · intro h; rw [if_pos (of_decide_eq_true h)]
          · intro h; rw [if_neg (of_decide_eq_false h)]
        obtain ⟨q, hq⟩ : ∃ q, q = p + 1 + 1 := ⟨_, rfl⟩
        obtain ⟨p1, hp1⟩ : ∃ p1, p1 = p + 1 := ⟨_, rfl⟩
        have hqe0 : (p : Int) + 1 = (p1 : Int) := by omega
        have hwp : IntKind.i64.wrap (p1 : Int) = (p1 : Int) := by rw [IntKind.wrap_i64]; omega
        have hqe1 : (p1 : Int) + 1 = (q : Int) := by omega
        have hwq : IntKind.i64.wrap (q : Int) = (q : Int) := by rw [IntKind.wrap_i64]; omega
        have hqp : q - p = 1 + 1 := by omega
        have HQQ : Hid (p + (1 + 1) = q) := by unfold Hid; omega
        have hq1 : (p : Int) ≤ (q : Int) := by omega
        have hq2 : (q : Int) ≤ (l.length : Int) := by omega
        have hq3 : (q : Int) ≤ (cap : Int) := by omega
        have bA := (Below.refl w1.heap.size w1).alloc (Nat.le_refl _) (.cells #[.int .i64 tg, .int .i64 z, .slice none 0 0] 25)
        have HX2 : Hid (BxA (w1.alloc (.cells #[.int .i64 tg, .int .i64 z, .slice none 0 0] 25)) g0 0 0 (.slice none 0 0)) := HX1.out.under bA
        have HA2 : Hid (BxA (w1.alloc (.cells #[.int .i64 tg, .int .i64 z, .slice none 0 0] 25)) w1.heap.size tg z (.slice none 0 0)) := BxA.new _ _ _ _
        have HB2 : Hid (Below g0 w (w1.alloc (.cells #[.int .i64 tg, .int .i64 z, .slice none 0 0] 25))) := HB1.out.trans (bA.mono (by omega))
        have HV2 : Hid (By (w1.alloc (.cells #[.int .i64 tg, .int .i64 z, .slice none 0 0] 25)) (.slice (some ⟨b, off, none⟩) l.length cap) l) := HV1.out.under bA
        obtain ⟨ob, hob⟩ : ∃ ob, ob = if cap = p then off else off + p := ⟨_, rfl⟩
        have hob2 : (if cap = p then some (⟨b, off, none⟩ : Addr) else some ⟨b, off + p, none⟩) = some ⟨b, ob, none⟩ := by rw [hob]; split <;> rfl
        have hsub := HV2.out.sub p q ob (by omega) (by omega) hob
        obtain ⟨S2, hS2⟩ : ∃ S2 : ByteArray, S2 = ⟨((l.drop p).take (q - p)).toArray⟩ := ⟨_, rfl⟩
        obtain ⟨S1, hS1⟩ : ∃ S1 : ByteArray, S1 = ⟨(sglB tg z).toArray⟩ := ⟨_, rfl⟩
        have hSS : (S1.toList == S2.toList) = decide (sglB tg z = (l.drop p).take (1 + 1)) := by rw [hS1, hS2, bytes_eq, hqp]
        have HTX : Hid (∀ W, Below (w1.alloc (.cells #[.int .i64 tg, .int .i64 z, .slice none 0 0] 25)).heap.size (w1.alloc (.cells #[.int .i64 tg, .int .i64 z, .slice none 0 0] 25)) W → (convert 22 9 (.slice (some ⟨b, ob, none⟩) (q - p) (cap - p))).run Tryd.prog W = .ok (.string S2) W) := fun W hW => by
          have := (hsub.under hW).text
          rw [hS2]; exact this
        have HCK : Hid (∀ W, Calls Tryd.prog 12 #[.agg #[.int .i64 tg, .int .i64 z, .slice none 0 0]] W (CxPost W (okN1 tg z))) := fun W => by
          have := rcx_any W ⟨tg, z, none, 0, 0⟩ [] (fit_mk ht70 (by omega) hVb) (Rw3.nil _) rfl
          rw [show El.ok ⟨tg, z, none, 0, 0⟩ [] = okN1 tg z by unfold El.ok El.ok1; dsimp only; rw [if_neg (by omega)]; simp] at this
          exact this
        have HPT : Hid (okN1 tg z = true → ∀ W, Calls Tryd.prog 38 #[.agg #[.int .i64 tg, .int .i64 z, .slice none 0 0]] W (RnPost W (sglB tg z))) := fun ho W => rput_sgl W tg z none 0 0 ho
        have HS1 : Hid (S1 = ⟨(sglB tg z).toArray⟩) := hS1
        skip
        clear hsub hob hS1 hS2 HNX HX1 HV1 hq hqp HCELL HTG HFF hni hp1
        go_wp2_with fail
        generalize w1.alloc (.cells #[.int .i64 tg, .int .i64 z, .slice none 0 0] 25) = w2 at *
        generalize w1.heap.size = gx at *
        have HCL : Hid (∀ W, Below w2.heap.size w2 W → W.cell? ⟨gx, 0, none⟩ = some (.int .i64 tg) ∧ W.cell? ⟨gx, 1, none⟩ = some (.int .i64 z) ∧ W.cell? ⟨gx, 2, none⟩ = some (.slice none 0 0)) := fun W hW => by
          obtain ⟨c0, c1, c2, -⟩ := (HA2.out.under hW).facts
          exact ⟨c0, c1, c2⟩
        have hw2 := HB2.out.size
        go_cut [131] from 115 (fun s wc => s = .bool (!D) ∧ Below w2.heap.size w2 wc)
        case first =>
          obtain ⟨ok, hok⟩ : ∃ ok, okN1 tg z = ok := ⟨_, rfl⟩
          rw [hok] at HCK HPT hD
          cases ok
          · have hDf : D = false := by rw [← hD]; simp
            subst hDf
            clear HD HPT HTX hD hSS
            refine wp_region_noPanic ?_
            refine wp_region_held_drew (S := (fun W' => W'.cell? ⟨gx, 0, none⟩ = some (.int .i64 tg) ∧ W'.cell? ⟨gx, 1, none⟩ = some (.int .i64 z) ∧ W'.cell? ⟨gx, 2, none⟩ = some (.slice none 0 0))) (by kernel_rfl) ?_ (fun hHeld => ?_)
            · exact HCL.out _ ((Below.refl _ _).drew)
            refine wpAnyH_take (i := 0) (v := ?_) (opNth_ops rfl) (by kernel_rfl) (by kernel_rfl) (by kernel_rfl) (fun _ _ _ h => h) (Or.inl ⟨by rfl, ?_⟩) (by assumption) ?_
            rotate_left
            · intro wq hSq
              go_simp
              try with_reducible rfl
            try simp only [Act.put, List.setIfInBounds_toArray, List.set_cons_zero, List.set_cons_succ]
            refine wpAnyH_ready (rs := [1]) (by kernel_rfl) (by simp) ?_
            refine AllReadyH.cons (opNth_ops rfl) (fun K hK => ?_) ?_
            rotate_left
            exact AllReadyH.nil
            go_simp
            go_at_call 12
            refine (HCK.out _).mono ?_
            rintro e x1 ⟨rfl, b1⟩
            have hk1 : Below w2.heap.size w2 x1 := ((Below.refl _ _).drew).trans (b1.mono (Nat.le_refl _))
            go_wp2_with fail
            refine hK.out _ _ ?_ (fun hHeld => ?_)
            · exact HCL.out _ hk1
            clear hK K
            try simp only [Act.put, List.setIfInBounds_toArray, List.set_cons_zero, List.set_cons_succ]
            refine wpAnyH_take (i := 2) (v := ?_) (opNth_ops rfl) (by kernel_rfl) (by kernel_rfl) (by kernel_rfl) (fun _ _ _ h => h) (Or.inl ⟨by rfl, ?_⟩) (by assumption) ?_
            rotate_left
            · intro wq hSq
              go_simp
              try with_reducible rfl
            try simp only [Act.put, List.setIfInBounds_toArray, List.set_cons_zero, List.set_cons_succ]
            refine wpAnyH_take (i := 3) (v := ?_) (opNth_ops rfl) (by kernel_rfl) (by kernel_rfl) (by kernel_rfl) (fun _ _ _ h => h) (Or.inl ⟨by rfl, ?_⟩) (by assumption) ?_
            rotate_left
            · intro wq hSq
              go_simp
              try with_reducible rfl
            try simp only [Act.put, List.setIfInBounds_toArray, List.set_cons_zero, List.set_cons_succ]
            refine wpAnyH_take (i := 4) (v := undef) (opNth_ops rfl) (by kernel_rfl) (by kernel_rfl) (by kernel_rfl) (fun _ _ _ h => h) (Or.inr ⟨by rfl, rfl⟩) (by assumption) ?_
            try simp only [Act.put, List.setIfInBounds_toArray, List.set_cons_zero, List.set_cons_succ]
            refine wpAnyH_take (i := 5) (v := undef) (opNth_ops rfl) (by kernel_rfl) (by kernel_rfl) (by kernel_rfl) (fun _ _ _ h => h) (Or.inr ⟨by rfl, rfl⟩) (by assumption) ?_
            try simp only [Act.put, List.setIfInBounds_toArray, List.set_cons_zero, List.set_cons_succ]
            refine wpAnyH_take (i := 6) (v := undef) (opNth_ops rfl) (by kernel_rfl) (by kernel_rfl) (by kernel_rfl) (fun _ _ _ h => h) (Or.inr ⟨by rfl, rfl⟩) (by assumption) ?_
            try simp only [Act.put, List.setIfInBounds_toArray, List.set_cons_zero, List.set_cons_succ]
            refine wpAnyH_take (i := 7) (v := undef) (opNth_ops rfl) (by kernel_rfl) (by kernel_rfl) (by kernel_rfl) (fun _ _ _ h => h) (Or.inr ⟨by rfl, rfl⟩) (by assumption) ?_
            try simp only [Act.put, List.setIfInBounds_toArray, List.set_cons_zero, List.set_cons_succ]
            refine wpAnyH_take (i := 8) (v := undef) (opNth_ops rfl) (by kernel_rfl) (by kernel_rfl) (by kernel_rfl) (fun _ _ _ h => h) (Or.inr ⟨by rfl, rfl⟩) (by assumption) ?_
            try simp only [Act.put, List.setIfInBounds_toArray, List.set_cons_zero, List.set_cons_succ]
            refine wpAnyH_take (i := 9) (v := undef) (opNth_ops rfl) (by kernel_rfl) (by kernel_rfl) (by kernel_rfl) (fun _ _ _ h => h) (Or.inr ⟨by rfl, rfl⟩) (by assumption) ?_
            try simp only [Act.put, List.setIfInBounds_toArray, List.set_cons_zero, List.set_cons_succ]
            refine wpAnyH_take (i := 10) (v := undef) (opNth_ops rfl) (by kernel_rfl) (by kernel_rfl) (by kernel_rfl) (fun _ _ _ h => h) (Or.inr ⟨by rfl, rfl⟩) (by assumption) ?_
            try simp only [Act.put, List.setIfInBounds_toArray, List.set_cons_zero, List.set_cons_succ]
            refine wpAnyH_take (i := 11) (v := undef) (opNth_ops rfl) (by kernel_rfl) (by kernel_rfl) (by kernel_rfl) (fun _ _ _ h => h) (Or.inr ⟨by rfl, rfl⟩) (by assumption) ?_
            try simp only [Act.put, List.setIfInBounds_toArray, List.set_cons_zero, List.set_cons_succ]
            refine wpAnyH_take (i := 12) (v := undef) (opNth_ops rfl) (by kernel_rfl) (by kernel_rfl) (by kernel_rfl) (fun _ _ _ h => h) (Or.inr ⟨by rfl, rfl⟩) (by assumption) ?_
            try simp only [Act.put, List.setIfInBounds_toArray, List.set_cons_zero, List.set_cons_succ]
            refine wpAnyH_take (i := 13) (v := undef) (opNth_ops rfl) (by kernel_rfl) (by kernel_rfl) (by kernel_rfl) (fun _ _ _ h => h) (Or.inr ⟨by rfl, rfl⟩) (by assumption) ?_
            try simp only [Act.put, List.setIfInBounds_toArray, List.set_cons_zero, List.set_cons_succ]
            refine wpAnyH_take (i := 14) (v := undef) (opNth_ops rfl) (by kernel_rfl) (by kernel_rfl) (by kernel_rfl) (fun _ _ _ h => h) (Or.inr ⟨by rfl, rfl⟩) (by assumption) ?_
            try simp only [Act.put, List.setIfInBounds_toArray, List.set_cons_zero, List.set_cons_succ]
            refine wpAnyH_take (i := 15) (v := undef) (opNth_ops rfl) (by kernel_rfl) (by kernel_rfl) (by kernel_rfl) (fun _ _ _ h => h) (Or.inr ⟨by rfl, rfl⟩) (by assumption) ?_
            try simp only [Act.put, List.setIfInBounds_toArray, List.set_cons_zero, List.set_cons_succ]
            refine wpAnyH_take (i := 16) (v := ?_) (opNth_ops rfl) (by kernel_rfl) (by kernel_rfl) (by kernel_rfl) (fun _ _ _ h => h) (Or.inl ⟨by rfl, ?_⟩) (by assumption) ?_
            rotate_left
            · intro wq hSq
              go_simp
              try with_reducible rfl
            try simp only [Act.put, List.setIfInBounds_toArray, List.set_cons_zero, List.set_cons_succ]
            refine wpAnyH_done (by kernel_rfl) ?_ _
            refine NoPanic.normal ?_
            go_wp2_with fail
            go_meet
            case rel => exact ⟨rfl, hk1⟩
          · have hDD : (S1.toList == S2.toList) = D := by rw [hSS, ← hD]; simp
            have HPT2 := HPT.out rfl
            have HPT3 : Hid (∀ W, Calls Tryd.prog 38 #[.agg #[.int .i64 tg, .int .i64 z, .slice none 0 0]] W (RnPost W (sglB tg z))) := HPT2
            clear HD hD hSS HPT HPT2
            refine wp_region_noPanic ?_
            refine wp_region_held_drew (S := (fun W' => W'.cell? ⟨gx, 0, none⟩ = some (.int .i64 tg) ∧ W'.cell? ⟨gx, 1, none⟩ = some (.int .i64 z) ∧ W'.cell? ⟨gx, 2, none⟩ = some (.slice none 0 0))) (by kernel_rfl) ?_ (fun hHeld => ?_)
            · exact HCL.out _ ((Below.refl _ _).drew)
            refine wpAnyH_take (i := 0) (v := ?_) (opNth_ops rfl) (by kernel_rfl) (by kernel_rfl) (by kernel_rfl) (fun _ _ _ h => h) (Or.inl ⟨by rfl, ?_⟩) (by assumption) ?_
            rotate_left
            · intro wq hSq
              go_simp
              try with_reducible rfl
            try simp only [Act.put, List.setIfInBounds_toArray, List.set_cons_zero, List.set_cons_succ]
            refine wpAnyH_ready (rs := [1]) (by kernel_rfl) (by simp) ?_
            refine AllReadyH.cons (opNth_ops rfl) (fun K hK => ?_) ?_
            rotate_left
            exact AllReadyH.nil
            go_simp
            go_at_call 12
            refine (HCK.out _).mono ?_
            rintro e x1 ⟨rfl, b1⟩
            have hk1 : Below w2.heap.size w2 x1 := ((Below.refl _ _).drew).trans (b1.mono (Nat.le_refl _))
            have tx1 := HTX.out x1 hk1
            go_wp2_with fail
            refine hK.out _ _ ?_ (fun hHeld => ?_)
            · exact HCL.out _ hk1
            clear hK K
            try simp only [Act.put, List.setIfInBounds_toArray, List.set_cons_zero, List.set_cons_succ]
            refine wpAnyH_take (i := 2) (v := ?_) (opNth_ops rfl) (by kernel_rfl) (by kernel_rfl) (by kernel_rfl) (fun _ _ _ h => h) (Or.inl ⟨by rfl, ?_⟩) (by assumption) ?_
            rotate_left
            · intro wq hSq
              go_simp
              try with_reducible rfl
            try simp only [Act.put, List.setIfInBounds_toArray, List.set_cons_zero, List.set_cons_succ]
            refine wpAnyH_take (i := 3) (v := ?_) (opNth_ops rfl) (by kernel_rfl) (by kernel_rfl) (by kernel_rfl) (fun _ _ _ h => h) (Or.inl ⟨by rfl, ?_⟩) (by assumption) ?_
            rotate_left
            · intro wq hSq
              go_simp
              try with_reducible rfl
            try simp only [Act.put, List.setIfInBounds_toArray, List.set_cons_zero, List.set_cons_succ]
            refine wpAnyH_take (i := 4) (v := ?_) (opNth_ops rfl) (by kernel_rfl) (by kernel_rfl) (by kernel_rfl) (fun _ _ _ h => h) (Or.inl ⟨by rfl, ?_⟩) (by assumption) ?_
            rotate_left
            · intro wq hSq
              go_simp
              try with_reducible rfl
            try simp only [Act.put, List.setIfInBounds_toArray, List.set_cons_zero, List.set_cons_succ]
            refine wpAnyH_take (i := 7) (v := ?_) (opNth_ops rfl) (by kernel_rfl) (by kernel_rfl) (by kernel_rfl) (fun _ _ _ h => h) (Or.inl ⟨by rfl, ?_⟩) (by assumption) ?_
            rotate_left
            · intro wq hSq
              go_simp
              try with_reducible rfl
            try simp only [Act.put, List.setIfInBounds_toArray, List.set_cons_zero, List.set_cons_succ]
            refine wpAnyH_take (i := 8) (v := ?_) (opNth_ops rfl) (by kernel_rfl) (by kernel_rfl) (by kernel_rfl) (fun _ _ _ h => h) (Or.inl ⟨by rfl, ?_⟩) (by assumption) ?_
            rotate_left
            · intro wq hSq
              go_simp
              try with_reducible rfl
            try simp only [Act.put, List.setIfInBounds_toArray, List.set_cons_zero, List.set_cons_succ]
            refine wpAnyH_take (i := 9) (v := ?_) (opNth_ops rfl) (by kernel_rfl) (by kernel_rfl) (by kernel_rfl) (fun _ _ _ h => h) (Or.inl ⟨by rfl, ?_⟩) (by assumption) ?_
            rotate_left
            · intro wq hSq
              go_simp
              try with_reducible rfl
            try simp only [Act.put, List.setIfInBounds_toArray, List.set_cons_zero, List.set_cons_succ]
            refine wpAnyH_take (i := 10) (v := ?_) (opNth_ops rfl) (by kernel_rfl) (by kernel_rfl) (by kernel_rfl) (fun _ _ _ h => h) (Or.inl ⟨by rfl, ?_⟩) (by assumption) ?_
            rotate_left
            · intro wq hSq
              go_simp
              try with_reducible rfl
            try simp only [Act.put, List.setIfInBounds_toArray, List.set_cons_zero, List.set_cons_succ]
            refine wpAnyH_take (i := 11) (v := ?_) (opNth_ops rfl) (by kernel_rfl) (by kernel_rfl) (by kernel_rfl) (fun _ _ _ h => h) (Or.inl ⟨by rfl, ?_⟩) (by assumption) ?_
            rotate_left
            · intro wq hSq
              go_simp
              try with_reducible rfl
            try simp only [Act.put, List.setIfInBounds_toArray, List.set_cons_zero, List.set_cons_succ]
            refine wpAnyH_take (i := 12) (v := ?_) (opNth_ops rfl) (by kernel_rfl) (by kernel_rfl) (by kernel_rfl) (fun _ _ _ h => h) (Or.inl ⟨by rfl, ?_⟩) (by assumption) ?_
            rotate_left
            · intro wq hSq
              go_simp
              try with_reducible rfl
            try simp only [Act.put, List.setIfInBounds_toArray, List.set_cons_zero, List.set_cons_succ]
            refine wpAnyH_take (i := 13) (v := ?_) (opNth_ops rfl) (by kernel_rfl) (by kernel_rfl) (by kernel_rfl) (fun _ _ _ h => h) (Or.inl ⟨by rfl, ?_⟩) (by assumption) ?_
            rotate_left
            · intro wq hSq
              go_simp
              try with_reducible rfl
            try simp only [Act.put, List.setIfInBounds_toArray, List.set_cons_zero, List.set_cons_succ]
            refine wpAnyH_ready (rs := [5, 14]) (by kernel_rfl) (by simp) ?_
            refine AllReadyH.cons (opNth_ops rfl) (fun K hK => ?_) ?_
            · go_simp
              go_at_call 38
              refine (HPT3.out _).mono ?_
              rintro e x2 ⟨v2, rfl, o2, b2⟩
              have hk2 : Below w2.heap.size w2 x2 := hk1.trans (b2.mono hk1.size)
              obtain ⟨a2, k2, rfl, -⟩ := o2.by.shape
              have t2 := o2.by.text
              rw [← HS1.out] at t2
              have tx2 := HTX.out x2 hk2
              go_wp2_with fail
              refine hK.out _ _ ?_ (fun hHeld => ?_)
              · exact HCL.out _ hk2
              clear hK K
              try simp only [Act.put, List.setIfInBounds_toArray, List.set_cons_zero, List.set_cons_succ]
              refine wpAnyH_ready (rs := [6, 14]) (by kernel_rfl) (by simp) ?_
              refine AllReadyH.cons (opNth_ops rfl) (fun K hK => ?_) ?_
              · go_simp
                refine hK.out _ _ ?_ (fun hHeld => ?_)
                · exact HCL.out _ hk2
                clear hK K
                try simp only [Act.put, List.setIfInBounds_toArray, List.set_cons_zero, List.set_cons_succ]
                refine wpAnyH_ready (rs := [14]) (by kernel_rfl) (by simp) ?_
                refine AllReadyH.cons (opNth_ops rfl) (fun K hK => ?_) ?_
                rotate_left
                exact AllReadyH.nil
                go_simp
                refine hK.out _ _ ?_ (fun hHeld => ?_)
                · exact HCL.out _ hk2
                clear hK K
                try simp only [Act.put, List.setIfInBounds_toArray, List.set_cons_zero, List.set_cons_succ]
                refine wpAnyH_take (i := 15) (v := ?_) (opNth_ops rfl) (by kernel_rfl) (by kernel_rfl) (by kernel_rfl) (fun _ _ _ h => h) (Or.inl ⟨by rfl, ?_⟩) (by assumption) ?_
                rotate_left
                · intro wq hSq
                  go_simp
                  try with_reducible rfl
                try simp only [Act.put, List.setIfInBounds_toArray, List.set_cons_zero, List.set_cons_succ]
                refine wpAnyH_take (i := 16) (v := ?_) (opNth_ops rfl) (by kernel_rfl) (by kernel_rfl) (by kernel_rfl) (fun _ _ _ h => h) (Or.inl ⟨by rfl, ?_⟩) (by assumption) ?_
                rotate_left
                · intro wq hSq
                  go_simp
                  try with_reducible rfl
                try simp only [Act.put, List.setIfInBounds_toArray, List.set_cons_zero, List.set_cons_succ]
                refine wpAnyH_done (by kernel_rfl) ?_ _
                refine NoPanic.normal ?_
                go_wp2_with fail
                go_meet
                case rel => exact ⟨rfl, hk2⟩
              refine AllReadyH.cons (opNth_ops rfl) (fun K hK => ?_) ?_
              · go_simp
                refine hK.out _ _ ?_ (fun hHeld => ?_)
                · exact HCL.out _ hk2
                clear hK K
                try simp only [Act.put, List.setIfInBounds_toArray, List.set_cons_zero, List.set_cons_succ]
                refine wpAnyH_ready (rs := [6]) (by kernel_rfl) (by simp) ?_
                refine AllReadyH.cons (opNth_ops rfl) (fun K hK => ?_) ?_
                rotate_left
                exact AllReadyH.nil
                go_simp
                refine hK.out _ _ ?_ (fun hHeld => ?_)
                · exact HCL.out _ hk2
                clear hK K
                try simp only [Act.put, List.setIfInBounds_toArray, List.set_cons_zero, List.set_cons_succ]
                refine wpAnyH_take (i := 15) (v := ?_) (opNth_ops rfl) (by kernel_rfl) (by kernel_rfl) (by kernel_rfl) (fun _ _ _ h => h) (Or.inl ⟨by rfl, ?_⟩) (by assumption) ?_
                rotate_left
                · intro wq hSq
                  go_simp
                  try with_reducible rfl
                try simp only [Act.put, List.setIfInBounds_toArray, List.set_cons_zero, List.set_cons_succ]
                refine wpAnyH_take (i := 16) (v := ?_) (opNth_ops rfl) (by kernel_rfl) (by kernel_rfl) (by kernel_rfl) (fun _ _ _ h => h) (Or.inl ⟨by rfl, ?_⟩) (by assumption) ?_
                rotate_left
                · intro wq hSq
                  go_simp
                  try with_reducible rfl
                try simp only [Act.put, List.setIfInBounds_toArray, List.set_cons_zero, List.set_cons_succ]
                refine wpAnyH_done (by kernel_rfl) ?_ _
                refine NoPanic.normal ?_
                go_wp2_with fail
                go_meet
                case rel => exact ⟨rfl, hk2⟩
              exact AllReadyH.nil
            refine AllReadyH.cons (opNth_ops rfl) (fun K hK => ?_) ?_
            · go_simp
              refine hK.out _ _ ?_ (fun hHeld => ?_)
              · exact HCL.out _ hk1
              clear hK K
              try simp only [Act.put, List.setIfInBounds_toArray, List.set_cons_zero, List.set_cons_succ]
              refine wpAnyH_ready (rs := [5]) (by kernel_rfl) (by simp) ?_
              refine AllReadyH.cons (opNth_ops rfl) (fun K hK => ?_) ?_
              rotate_left
              exact AllReadyH.nil
              go_simp
              go_at_call 38
              refine (HPT3.out _).mono ?_
              rintro e x2 ⟨v2, rfl, o2, b2⟩
              have hk2 : Below w2.heap.size w2 x2 := hk1.trans (b2.mono hk1.size)
              obtain ⟨a2, k2, rfl, -⟩ := o2.by.shape
              have t2 := o2.by.text
              rw [← HS1.out] at t2
              have tx2 := HTX.out x2 hk2
              go_wp2_with fail
              refine hK.out _ _ ?_ (fun hHeld => ?_)
              · exact HCL.out _ hk2
              clear hK K
              try simp only [Act.put, List.setIfInBounds_toArray, List.set_cons_zero, List.set_cons_succ]
              refine wpAnyH_ready (rs := [6]) (by kernel_rfl) (by simp) ?_
              refine AllReadyH.cons (opNth_ops rfl) (fun K hK => ?_) ?_
              rotate_left
              exact AllReadyH.nil
              go_simp
              refine hK.out _ _ ?_ (fun hHeld => ?_)
              · exact HCL.out _ hk2
              clear hK K
              try simp only [Act.put, List.setIfInBounds_toArray, List.set_cons_zero, List.set_cons_succ]
              refine wpAnyH_take (i := 15) (v := ?_) (opNth_ops rfl) (by kernel_rfl) (by kernel_rfl) (by kernel_rfl) (fun _ _ _ h => h) (Or.inl ⟨by rfl, ?_⟩) (by assumption) ?_
              rotate_left
              · intro wq hSq
                go_simp
                try with_reducible rfl
              try simp only [Act.put, List.setIfInBounds_toArray, List.set_cons_zero, List.set_cons_succ]
              refine wpAnyH_take (i := 16) (v := ?_) (opNth_ops rfl) (by kernel_rfl) (by kernel_rfl) (by kernel_rfl) (fun _ _ _ h => h) (Or.inl ⟨by rfl, ?_⟩) (by assumption) ?_
              rotate_left
              · intro wq hSq
                go_simp
                try with_reducible rfl
              try simp only [Act.put, List.setIfInBounds_toArray, List.set_cons_zero, List.set_cons_succ]
              refine wpAnyH_done (by kernel_rfl) ?_ _
              refine NoPanic.normal ?_
              go_wp2_with fail
              go_meet
              case rel => exact ⟨rfl, hk2⟩
            exact AllReadyH.nil
        case rest =>
          obtain ⟨rfl, hk⟩ := hcut
          have HXC : Hid (BxA wc g0 0 0 (.slice none 0 0)) := HX2.out.under hk
          have HAC : Hid (BxA wc gx tg z (.slice none 0 0)) := HA2.out.under hk
          have HBC : Hid (Below g0 w wc) := HB2.out.trans (hk.mono (by omega))
          obtain ⟨e0, e1, e2, f0, f1, f2⟩ := HXC.out.facts
          obtain ⟨p0, p1, p2, -⟩ := HAC.out.facts
          clear hk HCL HTX HCK HPT HX2 HA2 HB2 HV2
          cases D with
          | true =>
            have HE : Hid (R = ⟨0, tg, z, 1 + 1⟩) := HD.out.1 rfl
            go_wp2_with fail
            try simp only [Exit.inBlock, Exit.then]
            refine bodyPost_ret (results_a3 rfl _ _ g0 tg z (.slice none 0 0) rfl (HXC.out.set tg z _)) rfl ?_
            rw [HE.out]
            refine ⟨?_, by rw [hgd]; exact Below.setA HBC.out (Nat.le_refl _) _ _ _⟩
            dsimp only
            rw [if_pos rfl, HQQ.out]
            rfl
          | false =>
            have HE : Hid (R = Rd.bad 4) := HD.out.2 rfl
            go_wp2_with fail
            try simp only [Exit.inBlock, Exit.then]
            refine bodyPost_ret (results_a3 rfl _ _ g0 0 0 (.slice none 0 0) rfl (HXC.out.set 0 0 _)) rfl ?_
            rw [HE.out]
            refine SmPost.bad (by decide) ?_
            rw [hgd]
            exact Below.setA HBC.out (Nat.le_refl _) _ _ _
      | succ g =>
        have hkn : k < 1 := by omega
        have hki : (k : Int) < 1 := by omega
        obtain ⟨x, hx⟩ : ∃ x, x = (l.getD (p + 1 + k) 0).toNat := ⟨_, rfl⟩
        have hcx := HCELL.out (p + 1 + k) (by omega)
        have hxb : x < 256 := by rw [hx]; exact UInt8.toNat_lt _
        obtain ⟨hb1, hb2⟩ := HBD.out k hkn
        have hst := HST.out k hkn
        rw [← hx] at hcx hst
        obtain ⟨Z, hZ⟩ : ∃ Z, Z = accN B (r.take k) := ⟨_, rfl⟩
        rw [← hZ] at hb1 hb2 hst
        have HNEW : Hid (accN B (r.take (k + 1)) = Z * 256 + (x : Int)) := hst
        have hidx : (p : Int) + 1 + (k : Int) < (l.length : Int) := by omega
        have hidc : (p : Int) + 1 + (k : Int) < (cap : Int) := by omega
        clear hst
        have hk0 : k = 0 := by omega
        subst hk0
        have hzz : z = Z := by
          rcases HZ.out with ⟨h1, h2⟩ | ⟨h1, h2⟩
          · rw [h2, hZ, hz0]; exact HBG.out.symm
          · omega
        subst hzz
        have htne : (tg == 1) = false := by simp; omega
        clear HZ HST HBD HCELL hZ hx
        go_wp2_with fail
        go_roundg g
        case measure => omega
        case rel => exact ⟨0 + 1, _, by omega, rfl, by go_num, rfl, .inr ⟨by omega, by have := HNEW.out; omega⟩⟩
  have c3' : f / 16 % 2 = 1 := by omega
  have a24' : bits .and .i64 (f : Int) 24 = 24 := by rw [a24]; omega
  clear a24
  obtain ⟨n4, hn4⟩ : ∃ n4, n4 = f / 32 + 2 := ⟨_, rfl⟩
  have hn4b : n4 ≤ 9 := by omega
  by_cases c4 : tg = 1
  · subst c4
    by_cases c5 : (8 : Int) < (f : Int) / 32 + 2
    · have c6 : (4 : Int) < (f : Int) / 32 + 2 := by omega
      have HE : Hid (R = Rd.bad 4) := by unfold Hid; rw [HNS.out, if_pos (by unfold szF; rw [if_neg (by omega), if_neg c2, if_neg c3]; have := HTG.out; simp; rw [if_pos (by omega)]; omega)]
      clear HNS htg
      go_enter Tryd.func40, Tryd.ntmps40
      go_wp2_with fail
      try simp only [Exit.inBlock, Exit.then]
      refine bodyPost_ret (results_a3 rfl _ _ g0 0 0 (.slice none 0 0) rfl (HX1.out.set 0 0 _)) rfl ?_
      rw [HE.out]
      refine SmPost.bad (by decide) ?_
      rw [hgd]
      exact Below.setA HB1.out (Nat.le_refl _) _ _ _
    rcases Classical.em ((4 : Int) < (f : Int) / 32 + 2) with c6 | c6
    all_goals
      have hsz : szF f = (((n4 : Nat) : Int), true) := by unfold szF; rw [if_neg (by omega), if_neg c2, if_neg c3, if_pos (by omega), ← hn4, decide_eq_true (by omega)]
      have hni : ((n4 : Nat) : Int) = ((f : Int) / 32 + 2) := by omega
      have HNV : Hid (R = if (l.length : Int) - (p : Int) - 1 < ((f : Int) / 32 + 2) then Rd.bad 3 else numV l p f n4) := by
        unfold Hid
        rw [HNS.out, hsz]
        dsimp only
        rw [if_neg (by decide), Int.toNat_natCast, hni]
      by_cases hC : (l.length : Int) - (p : Int) - 1 < ((f : Int) / 32 + 2)
      · have HE : Hid (R = Rd.bad 3) := by unfold Hid; rw [HNV.out, if_pos hC]
        clear HNS htg HNV hsz
        go_enter Tryd.func40, Tryd.ntmps40
        go_wp2_with fail
        try simp only [Exit.inBlock, Exit.then]
        refine bodyPost_ret (results_a3 rfl _ _ g0 0 0 (.slice none 0 0) rfl (HX1.out.set 0 0 _)) rfl ?_
        rw [HE.out]
        refine SmPost.bad (by decide) ?_
        rw [hgd]
        exact Below.setA HB1.out (Nat.le_refl _) _ _ _
      have HNW : Hid (R = numV l p f n4) := by unfold Hid; rw [HNV.out, if_neg hC]
      obtain ⟨r, hr⟩ : ∃ r, (l.drop (p + 1)).take n4 = r := ⟨_, rfl⟩
      have hrl : r.length = n4 := by rw [← hr]; simp <;> omega
      have hFol : Fol f r := ⟨by rw [hsz], by rw [hsz, hrl]⟩
      have hrg : ∀ k, k < n4 → (r.getD k 0).toNat = (l.getD (p + 1 + k) 0).toNat := fun k hk => by rw [← hr, getD_take _ _ _ hk, getD_drop]
      have HBD : Hid (∀ k, k < n4 → -36028797018963968 ≤ accN (begN f r) (r.take k) ∧ accN (begN f r) (r.take k) < 36028797018963968) := fun k hk => beg_bd hFol hf2 k (by omega)
      have HST : Hid (∀ k, k < n4 → accN (begN f r) (r.take (k + 1)) = accN (begN f r) (r.take k) * 256 + ((l.getD (p + 1 + k) 0).toNat : Int)) := by
        intro k hk
        rw [List.take_succ_eq_append_getElem (show k < r.length by omega), acc_snoc, ← hrg k hk, List.getD_eq_getElem?_getD, List.getElem?_eq_getElem (show k < r.length by omega)]
        rfl
      obtain ⟨V, hV⟩ : ∃ V, valN f r = V := ⟨_, rfl⟩
      have HV : Hid (accN (begN f r) (r.take n4) = V) := by unfold Hid; rw [← hV, ← hrl, List.take_length]; rfl
      have hVb := val_bd hFol hf2
      rw [hV] at hVb
      have HBG : Hid (begN f r = if 128 ≤ (l.getD (p + 1 + 0) 0).toNat then -1 else 0) := by
        unfold Hid begN
        rw [if_neg c2, if_neg c3, hrg 0 (by omega)]
        by_cases h : 128 ≤ (l.getD (p + 1 + 0) 0).toNat
        · rw [if_pos ⟨by omega, h⟩, if_pos h]
        · rw [if_neg (fun h2 => h h2.2), if_neg h]
      have HNX : Hid (R = if okN1 1 V = true ∧ sglB 1 V = (l.drop p).take (1 + n4) then ⟨0, 1, V, 1 + n4⟩ else Rd.bad 4) := by
        unfold Hid
        rw [HNW.out]
        unfold numV
        rw [hr, hV, ← htg]
      have hz0 : accN (begN f r) (r.take 0) = begN f r := rfl
      generalize begN f r = B at *
      clear HNS htg HNV hsz hFol hrg hr hV HNW hrl
      go_enter Tryd.func40, Tryd.ntmps40
      go_wp2_with fail
      go_loopg [10, 11] n4 (fun gk s10 s11 wr => ∃ (k : Nat) (z : Int), k + gk = n4 ∧ s10 = .int .i64 z ∧ s11 = .int .i64 (k : Int) ∧ w1 = wr ∧ Hid ((k = 0 ∧ z = 0) ∨ (0 < k ∧ z = accN B (r.take k))))
      case atStart => exact ⟨0, _, by omega, rfl, rfl, rfl, .inl ⟨rfl, rfl⟩⟩
      case round =>
        obtain ⟨k, z, hk, rfl, rfl, rfl, HZ⟩ := hrel
        cases gk with
        | zero =>
          obtain rfl : k = n4 := by omega
          have hzV : z = V := by
            rcases HZ.out with ⟨h1, h2⟩ | ⟨h1, h2⟩
            · omega
            · rw [h2]; exact HV.out
          subst hzV
          clear HZ HV HST HBD HBG hz0
          have ht5 : 1 ≤ 5 := by omega
          have ht70 : (0 : Int) ≤ 1 := by omega
          obtain ⟨D, hD⟩ : ∃ D, decide (okN1 1 z = true ∧ sglB 1 z = (l.drop p).take (1 + k)) = D := ⟨_, rfl⟩
          have HD : Hid ((D = true → R = ⟨0, 1, z, 1 + k⟩) ∧ (D = false → R = Rd.bad 4)) := by
            unfold Hid
            rw [HNX.out, ← hD]
            constructor
            · intro h; rw [if_pos (of_decide_eq_true h)]
            · intro h; rw [if_neg (of_decide_eq_false h)]
          obtain ⟨q, hq⟩ : ∃ q, q = p + 1 + k := ⟨_, rfl⟩
          obtain ⟨p1, hp1⟩ : ∃ p1, p1 = p + 1 := ⟨_, rfl⟩
          have hqe0 : (p : Int) + 1 = (p1 : Int) := by omega
          have hwp : IntKind.i64.wrap (p1 : Int) = (p1 : Int) := by rw [IntKind.wrap_i64]; omega
          have hqe1 : (p1 : Int) + ((f : Int) / 32 + 2) = (q : Int) := by omega
          have hwq : IntKind.i64.wrap (q : Int) = (q : Int) := by rw [IntKind.wrap_i64]; omega
          have hqp : q - p = 1 + k := by omega
          have HQQ : Hid (p + (1 + k) = q) := by unfold Hid; omega
          have hq1 : (p : Int) ≤ (q : Int) := by omega
          have hq2 : (q : Int) ≤ (l.length : Int) := by omega
          have hq3 : (q : Int) ≤ (cap : Int) := by omega
          have bA := (Below.refl w1.heap.size w1).alloc (Nat.le_refl _) (.cells #[.int .i64 1, .int .i64 z, .slice none 0 0] 25)
          have HX2 : Hid (BxA (w1.alloc (.cells #[.int .i64 1, .int .i64 z, .slice none 0 0] 25)) g0 0 0 (.slice none 0 0)) := HX1.out.under bA
          have HA2 : Hid (BxA (w1.alloc (.cells #[.int .i64 1, .int .i64 z, .slice none 0 0] 25)) w1.heap.size 1 z (.slice none 0 0)) := BxA.new _ _ _ _
          have HB2 : Hid (Below g0 w (w1.alloc (.cells #[.int .i64 1, .int .i64 z, .slice none 0 0] 25))) := HB1.out.trans (bA.mono (by omega))
          have HV2 : Hid (By (w1.alloc (.cells #[.int .i64 1, .int .i64 z, .slice none 0 0] 25)) (.slice (some ⟨b, off, none⟩) l.length cap) l) := HV1.out.under bA
          obtain ⟨ob, hob⟩ : ∃ ob, ob = if cap = p then off else off + p := ⟨_, rfl⟩
          have hob2 : (if cap = p then some (⟨b, off, none⟩ : Addr) else some ⟨b, off + p, none⟩) = some ⟨b, ob, none⟩ := by rw [hob]; split <;> rfl
          have hsub := HV2.out.sub p q ob (by omega) (by omega) hob
          obtain ⟨S2, hS2⟩ : ∃ S2 : ByteArray, S2 = ⟨((l.drop p).take (q - p)).toArray⟩ := ⟨_, rfl⟩
          obtain ⟨S1, hS1⟩ : ∃ S1 : ByteArray, S1 = ⟨(sglB 1 z).toArray⟩ := ⟨_, rfl⟩
          have hSS : (S1.toList == S2.toList) = decide (sglB 1 z = (l.drop p).take (1 + k)) := by rw [hS1, hS2, bytes_eq, hqp]
          have HTX : Hid (∀ W, Below (w1.alloc (.cells #[.int .i64 1, .int .i64 z, .slice none 0 0] 25)).heap.size (w1.alloc (.cells #[.int .i64 1, .int .i64 z, .slice none 0 0] 25)) W → (convert 22 9 (.slice (some ⟨b, ob, none⟩) (q - p) (cap - p))).run Tryd.prog W = .ok (.string S2) W) := fun W hW => by
            have := (hsub.under hW).text
            rw [hS2]; exact this
          have HCK : Hid (∀ W, Calls Tryd.prog 12 #[.agg #[.int .i64 1, .int .i64 z, .slice none 0 0]] W (CxPost W (okN1 1 z))) := fun W => by
            have := rcx_any W ⟨1, z, none, 0, 0⟩ [] (fit_mk ht70 (by omega) hVb) (Rw3.nil _) rfl
            rw [show El.ok ⟨1, z, none, 0, 0⟩ [] = okN1 1 z by unfold El.ok El.ok1; dsimp only; rw [if_neg (by omega)]; simp] at this
            exact this
          have HPT : Hid (okN1 1 z = true → ∀ W, Calls Tryd.prog 38 #[.agg #[.int .i64 1, .int .i64 z, .slice none 0 0]] W (RnPost W (sglB 1 z))) := fun ho W => rput_sgl W 1 z none 0 0 ho
          have HS1 : Hid (S1 = ⟨(sglB 1 z).toArray⟩) := hS1
          have hex : ¬ (k : Int) < ((f : Int) / 32 + 2) := by omega
          clear hsub hob hS1 hS2 HNX HX1 HV1 hq hqp HCELL HTG HFF hni hp1 hn4
          go_wp2_with fail
          generalize w1.alloc (.cells #[.int .i64 1, .int .i64 z, .slice none 0 0] 25) = w2 at *
          generalize w1.heap.size = gx at *
          have HCL : Hid (∀ W, Below w2.heap.size w2 W → W.cell? ⟨gx, 0, none⟩ = some (.int .i64 1) ∧ W.cell? ⟨gx, 1, none⟩ = some (.int .i64 z) ∧ W.cell? ⟨gx, 2, none⟩ = some (.slice none 0 0)) := fun W hW => by
            obtain ⟨c0, c1, c2, -⟩ := (HA2.out.under hW).facts
            exact ⟨c0, c1, c2⟩
          have hw2 := HB2.out.size
          go_cut [131] from 115 (fun s wc => s = .bool (!D) ∧ Below w2.heap.size w2 wc)
          case first =>
            obtain ⟨ok, hok⟩ : ∃ ok, okN1 1 z = ok := ⟨_, rfl⟩
            rw [hok] at HCK HPT hD
            cases ok
            · have hDf : D = false := by rw [← hD]; simp
              subst hDf
              clear HD HPT HTX hD hSS
              refine wp_region_noPanic ?_
              refine wp_region_held_drew (S := (fun W' => W'.cell? ⟨gx, 0, none⟩ = some (.int .i64 1) ∧ W'.cell? ⟨gx, 1, none⟩ = some (.int .i64 z) ∧ W'.cell? ⟨gx, 2, none⟩ = some (.slice none 0 0))) (by kernel_rfl) ?_ (fun hHeld => ?_)
              · exact HCL.out _ ((Below.refl _ _).drew)
              refine wpAnyH_take (i := 0) (v := ?_) (opNth_ops rfl) (by kernel_rfl) (by kernel_rfl) (by kernel_rfl) (fun _ _ _ h => h) (Or.inl ⟨by rfl, ?_⟩) (by assumption) ?_
              rotate_left
              · intro wq hSq
                go_simp
                try with_reducible rfl
              try simp only [Act.put, List.setIfInBounds_toArray, List.set_cons_zero, List.set_cons_succ]
              refine wpAnyH_ready (rs := [1]) (by kernel_rfl) (by simp) ?_
              refine AllReadyH.cons (opNth_ops rfl) (fun K hK => ?_) ?_
              rotate_left
              exact AllReadyH.nil
              go_simp
              go_at_call 12
              refine (HCK.out _).mono ?_
              rintro e x1 ⟨rfl, b1⟩
              have hk1 : Below w2.heap.size w2 x1 := ((Below.refl _ _).drew).trans (b1.mono (Nat.le_refl _))
              go_wp2_with fail
              refine hK.out _ _ ?_ (fun hHeld => ?_)
              · exact HCL.out _ hk1
              clear hK K
              try simp only [Act.put, List.setIfInBounds_toArray, List.set_cons_zero, List.set_cons_succ]
              refine wpAnyH_take (i := 2) (v := ?_) (opNth_ops rfl) (by kernel_rfl) (by kernel_rfl) (by kernel_rfl) (fun _ _ _ h => h) (Or.inl ⟨by rfl, ?_⟩) (by assumption) ?_
              rotate_left
              · intro wq hSq
                go_simp
                try with_reducible rfl
              try simp only [Act.put, List.setIfInBounds_toArray, List.set_cons_zero, List.set_cons_succ]
              refine wpAnyH_take (i := 3) (v := ?_) (opNth_ops rfl) (by kernel_rfl) (by kernel_rfl) (by kernel_rfl) (fun _ _ _ h => h) (Or.inl ⟨by rfl, ?_⟩) (by assumption) ?_
              rotate_left
              · intro wq hSq
                go_simp
                try with_reducible rfl
              try simp only [Act.put, List.setIfInBounds_toArray, List.set_cons_zero, List.set_cons_succ]
              refine wpAnyH_take (i := 4) (v := undef) (opNth_ops rfl) (by kernel_rfl) (by kernel_rfl) (by kernel_rfl) (fun _ _ _ h => h) (Or.inr ⟨by rfl, rfl⟩) (by assumption) ?_
              try simp only [Act.put, List.setIfInBounds_toArray, List.set_cons_zero, List.set_cons_succ]
              refine wpAnyH_take (i := 5) (v := undef) (opNth_ops rfl) (by kernel_rfl) (by kernel_rfl) (by kernel_rfl) (fun _ _ _ h => h) (Or.inr ⟨by rfl, rfl⟩) (by assumption) ?_
              try simp only [Act.put, List.setIfInBounds_toArray, List.set_cons_zero, List.set_cons_succ]
              refine wpAnyH_take (i := 6) (v := undef) (opNth_ops rfl) (by kernel_rfl) (by kernel_rfl) (by kernel_rfl) (fun _ _ _ h => h) (Or.inr ⟨by rfl, rfl⟩) (by assumption) ?_
              try simp only [Act.put, List.setIfInBounds_toArray, List.set_cons_zero, List.set_cons_succ]
              refine wpAnyH_take (i := 7) (v := undef) (opNth_ops rfl) (by kernel_rfl) (by kernel_rfl) (by kernel_rfl) (fun _ _ _ h => h) (Or.inr ⟨by rfl, rfl⟩) (by assumption) ?_
              try simp only [Act.put, List.setIfInBounds_toArray, List.set_cons_zero, List.set_cons_succ]
              refine wpAnyH_take (i := 8) (v := undef) (opNth_ops rfl) (by kernel_rfl) (by kernel_rfl) (by kernel_rfl) (fun _ _ _ h => h) (Or.inr ⟨by rfl, rfl⟩) (by assumption) ?_
              try simp only [Act.put, List.setIfInBounds_toArray, List.set_cons_zero, List.set_cons_succ]
              refine wpAnyH_take (i := 9) (v := undef) (opNth_ops rfl) (by kernel_rfl) (by kernel_rfl) (by kernel_rfl) (fun _ _ _ h => h) (Or.inr ⟨by rfl, rfl⟩) (by assumption) ?_
              try simp only [Act.put, List.setIfInBounds_toArray, List.set_cons_zero, List.set_cons_succ]
              refine wpAnyH_take (i := 10) (v := undef) (opNth_ops rfl) (by kernel_rfl) (by kernel_rfl) (by kernel_rfl) (fun _ _ _ h => h) (Or.inr ⟨by rfl, rfl⟩) (by assumption) ?_
              try simp only [Act.put, List.setIfInBounds_toArray, List.set_cons_zero, List.set_cons_succ]
              refine wpAnyH_take (i := 11) (v := undef) (opNth_ops rfl) (by kernel_rfl) (by kernel_rfl) (by kernel_rfl) (fun _ _ _ h => h) (Or.inr ⟨by rfl, rfl⟩) (by assumption) ?_
              try simp only [Act.put, List.setIfInBounds_toArray, List.set_cons_zero, List.set_cons_succ]
              refine wpAnyH_take (i := 12) (v := undef) (opNth_ops rfl) (by kernel_rfl) (by kernel_rfl) (by kernel_rfl) (fun _ _ _ h => h) (Or.inr ⟨by rfl, rfl⟩) (by assumption) ?_
              try simp only [Act.put, List.setIfInBounds_toArray, List.set_cons_zero, List.set_cons_succ]
              refine wpAnyH_take (i := 13) (v := undef) (opNth_ops rfl) (by kernel_rfl) (by kernel_rfl) (by kernel_rfl) (fun _ _ _ h => h) (Or.inr ⟨by rfl, rfl⟩) (by assumption) ?_
              try simp only [Act.put, List.setIfInBounds_toArray, List.set_cons_zero, List.set_cons_succ]
              refine wpAnyH_take (i := 14) (v := undef) (opNth_ops rfl) (by kernel_rfl) (by kernel_rfl) (by kernel_rfl) (fun _ _ _ h => h) (Or.inr ⟨by rfl, rfl⟩) (by assumption) ?_
              try simp only [Act.put, List.setIfInBounds_toArray, List.set_cons_zero, List.set_cons_succ]
              refine wpAnyH_take (i := 15) (v := undef) (opNth_ops rfl) (by kernel_rfl) (by kernel_rfl) (by kernel_rfl) (fun _ _ _ h => h) (Or.inr ⟨by rfl, rfl⟩) (by assumption) ?_
              try simp only [Act.put, List.setIfInBounds_toArray, List.set_cons_zero, List.set_cons_succ]
              refine wpAnyH_take (i := 16) (v := ?_) (opNth_ops rfl) (by kernel_rfl) (by kernel_rfl) (by kernel_rfl) (fun _ _ _ h => h) (Or.inl ⟨by rfl, ?_⟩) (by assumption) ?_
              rotate_left
              · intro wq hSq
                go_simp
                try with_reducible rfl
              try simp only [Act.put, List.setIfInBounds_toArray, List.set_cons_zero, List.set_cons_succ]
              refine wpAnyH_done (by kernel_rfl) ?_ _
              refine NoPanic.normal ?_
              go_wp2_with fail
              go_meet
              case rel => exact ⟨rfl, hk1⟩
            · have hDD : (S1.toList == S2.toList) = D := by rw [hSS, ← hD]; simp
              have HPT2 := HPT.out rfl
              have HPT3 : Hid (∀ W, Calls Tryd.prog 38 #[.agg #[.int .i64 1, .int .i64 z, .slice none 0 0]] W (RnPost W (sglB 1 z))) := HPT2
              clear HD hD hSS HPT HPT2
              refine wp_region_noPanic ?_
              refine wp_region_held_drew (S := (fun W' => W'.cell? ⟨gx, 0, none⟩ = some (.int .i64 1) ∧ W'.cell? ⟨gx, 1, none⟩ = some (.int .i64 z) ∧ W'.cell? ⟨gx, 2, none⟩ = some (.slice none 0 0))) (by kernel_rfl) ?_ (fun hHeld => ?_)
              · exact HCL.out _ ((Below.refl _ _).drew)
              refine wpAnyH_take (i := 0) (v := ?_) (opNth_ops rfl) (by kernel_rfl) (by kernel_rfl) (by kernel_rfl) (fun _ _ _ h => h) (Or.inl ⟨by rfl, ?_⟩) (by assumption) ?_
              rotate_left
              · intro wq hSq
                go_simp
                try with_reducible rfl
              try simp only [Act.put, List.setIfInBounds_toArray, List.set_cons_zero, List.set_cons_succ]
              refine wpAnyH_ready (rs := [1]) (by kernel_rfl) (by simp) ?_
              refine AllReadyH.cons (opNth_ops rfl) (fun K hK => ?_) ?_
              rotate_left
              exact AllReadyH.nil
              go_simp
              go_at_call 12
              refine (HCK.out _).mono ?_
              rintro e x1 ⟨rfl, b1⟩
              have hk1 : Below w2.heap.size w2 x1 := ((Below.refl _ _).drew).trans (b1.mono (Nat.le_refl _))
              have tx1 := HTX.out x1 hk1
              go_wp2_with fail
              refine hK.out _ _ ?_ (fun hHeld => ?_)
              · exact HCL.out _ hk1
              clear hK K
              try simp only [Act.put, List.setIfInBounds_toArray, List.set_cons_zero, List.set_cons_succ]
              refine wpAnyH_take (i := 2) (v := ?_) (opNth_ops rfl) (by kernel_rfl) (by kernel_rfl) (by kernel_rfl) (fun _ _ _ h => h) (Or.inl ⟨by rfl, ?_⟩) (by assumption) ?_
              rotate_left
              · intro wq hSq
                go_simp
                try with_reducible rfl
              try simp only [Act.put, List.setIfInBounds_toArray, List.set_cons_zero, List.set_cons_succ]
              refine wpAnyH_take (i := 3) (v := ?_) (opNth_ops rfl) (by kernel_rfl) (by kernel_rfl) (by kernel_rfl) (fun _ _ _ h => h) (Or.inl ⟨by rfl, ?_⟩) (by assumption) ?_
              rotate_left
              · intro wq hSq
                go_simp
                try with_reducible rfl
              try simp only [Act.put, List.setIfInBounds_toArray, List.set_cons_zero, List.set_cons_succ]
              refine wpAnyH_take (i := 4) (v := ?_) (opNth_ops rfl) (by kernel_rfl) (by kernel_rfl) (by kernel_rfl) (fun _ _ _ h => h) (Or.inl ⟨by rfl, ?_⟩) (by assumption) ?_
              rotate_left
              · intro wq hSq
                go_simp
                try with_reducible rfl
              try simp only [Act.put, List.setIfInBounds_toArray, List.set_cons_zero, List.set_cons_succ]
              refine wpAnyH_take (i := 7) (v := ?_) (opNth_ops rfl) (by kernel_rfl) (by kernel_rfl) (by kernel_rfl) (fun _ _ _ h => h) (Or.inl ⟨by rfl, ?_⟩) (by assumption) ?_
              rotate_left
              · intro wq hSq
                go_simp
                try with_reducible rfl
              try simp only [Act.put, List.setIfInBounds_toArray, List.set_cons_zero, List.set_cons_succ]
              refine wpAnyH_take (i := 8) (v := ?_) (opNth_ops rfl) (by kernel_rfl) (by kernel_rfl) (by kernel_rfl) (fun _ _ _ h => h) (Or.inl ⟨by rfl, ?_⟩) (by assumption) ?_
              rotate_left
              · intro wq hSq
                go_simp
                try with_reducible rfl
              try simp only [Act.put, List.setIfInBounds_toArray, List.set_cons_zero, List.set_cons_succ]
              refine wpAnyH_take (i := 9) (v := ?_) (opNth_ops rfl) (by kernel_rfl) (by kernel_rfl) (by kernel_rfl) (fun _ _ _ h => h) (Or.inl ⟨by rfl, ?_⟩) (by assumption) ?_
              rotate_left
              · intro wq hSq
                go_simp
                try with_reducible rfl
              try simp only [Act.put, List.setIfInBounds_toArray, List.set_cons_zero, List.set_cons_succ]
              refine wpAnyH_take (i := 10) (v := ?_) (opNth_ops rfl) (by kernel_rfl) (by kernel_rfl) (by kernel_rfl) (fun _ _ _ h => h) (Or.inl ⟨by rfl, ?_⟩) (by assumption) ?_
              rotate_left
              · intro wq hSq
                go_simp
                try with_reducible rfl
              try simp only [Act.put, List.setIfInBounds_toArray, List.set_cons_zero, List.set_cons_succ]
              refine wpAnyH_take (i := 11) (v := ?_) (opNth_ops rfl) (by kernel_rfl) (by kernel_rfl) (by kernel_rfl) (fun _ _ _ h => h) (Or.inl ⟨by rfl, ?_⟩) (by assumption) ?_
              rotate_left
              · intro wq hSq
                go_simp
                try with_reducible rfl
              try simp only [Act.put, List.setIfInBounds_toArray, List.set_cons_zero, List.set_cons_succ]
              refine wpAnyH_take (i := 12) (v := ?_) (opNth_ops rfl) (by kernel_rfl) (by kernel_rfl) (by kernel_rfl) (fun _ _ _ h => h) (Or.inl ⟨by rfl, ?_⟩) (by assumption) ?_
              rotate_left
              · intro wq hSq
                go_simp
                try with_reducible rfl
              try simp only [Act.put, List.setIfInBounds_toArray, List.set_cons_zero, List.set_cons_succ]
              refine wpAnyH_take (i := 13) (v := ?_) (opNth_ops rfl) (by kernel_rfl) (by kernel_rfl) (by kernel_rfl) (fun _ _ _ h => h) (Or.inl ⟨by rfl, ?_⟩) (by assumption) ?_
              rotate_left
              · intro wq hSq
                go_simp
                try with_reducible rfl
              try simp only [Act.put, List.setIfInBounds_toArray, List.set_cons_zero, List.set_cons_succ]
              refine wpAnyH_ready (rs := [5, 14]) (by kernel_rfl) (by simp) ?_
              refine AllReadyH.cons (opNth_ops rfl) (fun K hK => ?_) ?_
              · go_simp
                go_at_call 38
                refine (HPT3.out _).mono ?_
                rintro e x2 ⟨v2, rfl, o2, b2⟩
                have hk2 : Below w2.heap.size w2 x2 := hk1.trans (b2.mono hk1.size)
                obtain ⟨a2, k2, rfl, -⟩ := o2.by.shape
                have t2 := o2.by.text
                rw [← HS1.out] at t2
                have tx2 := HTX.out x2 hk2
                go_wp2_with fail
                refine hK.out _ _ ?_ (fun hHeld => ?_)
                · exact HCL.out _ hk2
                clear hK K
                try simp only [Act.put, List.setIfInBounds_toArray, List.set_cons_zero, List.set_cons_succ]
                refine wpAnyH_ready (rs := [6, 14]) (by kernel_rfl) (by simp) ?_
                refine AllReadyH.cons (opNth_ops rfl) (fun K hK => ?_) ?_
                · go_simp
                  refine hK.out _ _ ?_ (fun hHeld => ?_)
                  · exact HCL.out _ hk2
                  clear hK K
                  try simp only [Act.put, List.setIfInBounds_toArray, List.set_cons_zero, List.set_cons_succ]
                  refine wpAnyH_ready (rs := [14]) (by kernel_rfl) (by simp) ?_
                  refine AllReadyH.cons (opNth_ops rfl) (fun K hK => ?_) ?_
                  rotate_left
                  exact AllReadyH.nil
                  go_simp
                  refine hK.out _ _ ?_ (fun hHeld => ?_)
                  · exact HCL.out _ hk2
                  clear hK K
                  try simp only [Act.put, List.setIfInBounds_toArray, List.set_cons_zero, List.set_cons_succ]
                  refine wpAnyH_take (i := 15) (v := ?_) (opNth_ops rfl) (by kernel_rfl) (by kernel_rfl) (by kernel_rfl) (fun _ _ _ h => h) (Or.inl ⟨by rfl, ?_⟩) (by assumption) ?_
                  rotate_left
                  · intro wq hSq
                    go_simp
                    try with_reducible rfl
                  try simp only [Act.put, List.setIfInBounds_toArray, List.set_cons_zero, List.set_cons_succ]
                  refine wpAnyH_take (i := 16) (v := ?_) (opNth_ops rfl) (by kernel_rfl) (by kernel_rfl) (by kernel_rfl) (fun _ _ _ h => h) (Or.inl ⟨by rfl, ?_⟩) (by assumption) ?_
                  rotate_left
                  · intro wq hSq
                    go_simp
                    try with_reducible rfl
                  try simp only [Act.put, List.setIfInBounds_toArray, List.set_cons_zero, List.set_cons_succ]
                  refine wpAnyH_done (by kernel_rfl) ?_ _
                  refine NoPanic.normal ?_
                  go_wp2_with fail
                  go_meet
                  case rel => exact ⟨rfl, hk2⟩
                refine AllReadyH.cons (opNth_ops rfl) (fun K hK => ?_) ?_
                · go_simp
                  refine hK.out _ _ ?_ (fun hHeld => ?_)
                  · exact HCL.out _ hk2
                  clear hK K
                  try simp only [Act.put, List.setIfInBounds_toArray, List.set_cons_zero, List.set_cons_succ]
                  refine wpAnyH_ready (rs := [6]) (by kernel_rfl) (by simp) ?_
                  refine AllReadyH.cons (opNth_ops rfl) (fun K hK => ?_) ?_
                  rotate_left
                  exact AllReadyH.nil
                  go_simp
                  refine hK.out _ _ ?_ (fun hHeld => ?_)
                  · exact HCL.out _ hk2
                  clear hK K
                  try simp only [Act.put, List.setIfInBounds_toArray, List.set_cons_zero, List.set_cons_succ]
                  refine wpAnyH_take (i := 15) (v := ?_) (opNth_ops rfl) (by kernel_rfl) (by kernel_rfl) (by kernel_rfl) (fun _ _ _ h => h) (Or.inl ⟨by rfl, ?_⟩) (by assumption) ?_
                  rotate_left
                  · intro wq hSq
                    go_simp
                    try with_reducible rfl
                  try simp only [Act.put, List.setIfInBounds_toArray, List.set_cons_zero, List.set_cons_succ]
                  refine wpAnyH_take (i := 16) (v := ?_) (opNth_ops rfl) (by kernel_rfl) (by kernel_rfl) (by kernel_rfl) (fun _ _ _ h => h) (Or.inl ⟨by rfl, ?_⟩) (by assumption) ?_
                  rotate_left
                  · intro wq hSq
                    go_simp
                    try with_reducible rfl
                  try simp only [Act.put, List.setIfInBounds_toArray, List.set_cons_zero, List.set_cons_succ]
                  refine wpAnyH_done (by kernel_rfl) ?_ _
                  refine NoPanic.normal ?_
                  go_wp2_with fail
                  go_meet
                  case rel => exact ⟨rfl, hk2⟩
                exact AllReadyH.nil
              refine AllReadyH.cons (opNth_ops rfl) (fun K hK => ?_) ?_
              · go_simp
                refine hK.out _ _ ?_ (fun hHeld => ?_)
                · exact HCL.out _ hk1
                clear hK K
                try simp only [Act.put, List.setIfInBounds_toArray, List.set_cons_zero, List.set_cons_succ]
                refine wpAnyH_ready (rs := [5]) (by kernel_rfl) (by simp) ?_
                refine AllReadyH.cons (opNth_ops rfl) (fun K hK => ?_) ?_
                rotate_left
                exact AllReadyH.nil
                go_simp
                go_at_call 38
                refine (HPT3.out _).mono ?_
                rintro e x2 ⟨v2, rfl, o2, b2⟩
                have hk2 : Below w2.heap.size w2 x2 := hk1.trans (b2.mono hk1.size)
                obtain ⟨a2, k2, rfl, -⟩ := o2.by.shape
                have t2 := o2.by.text
                rw [← HS1.out] at t2
                have tx2 := HTX.out x2 hk2
                go_wp2_with fail
                refine hK.out _ _ ?_ (fun hHeld => ?_)
                · exact HCL.out _ hk2
                clear hK K
                try simp only [Act.put, List.setIfInBounds_toArray, List.set_cons_zero, List.set_cons_succ]
                refine wpAnyH_ready (rs := [6]) (by kernel_rfl) (by simp) ?_
                refine AllReadyH.cons (opNth_ops rfl) (fun K hK => ?_) ?_
                rotate_left
                exact AllReadyH.nil
                go_simp
                refine hK.out _ _ ?_ (fun hHeld => ?_)
                · exact HCL.out _ hk2
                clear hK K
                try simp only [Act.put, List.setIfInBounds_toArray, List.set_cons_zero, List.set_cons_succ]
                refine wpAnyH_take (i := 15) (v := ?_) (opNth_ops rfl) (by kernel_rfl) (by kernel_rfl) (by kernel_rfl) (fun _ _ _ h => h) (Or.inl ⟨by rfl, ?_⟩) (by assumption) ?_
                rotate_left
                · intro wq hSq
                  go_simp
                  try with_reducible rfl
                try simp only [Act.put, List.setIfInBounds_toArray, List.set_cons_zero, List.set_cons_succ]
                refine wpAnyH_take (i := 16) (v := ?_) (opNth_ops rfl) (by kernel_rfl) (by kernel_rfl) (by kernel_rfl) (fun _ _ _ h => h) (Or.inl ⟨by rfl, ?_⟩) (by assumption) ?_
                rotate_left
                · intro wq hSq
                  go_simp
                  try with_reducible rfl
                try simp only [Act.put, List.setIfInBounds_toArray, List.set_cons_zero, List.set_cons_succ]
                refine wpAnyH_done (by kernel_rfl) ?_ _
                refine NoPanic.normal ?_
                go_wp2_with fail
                go_meet
                case rel => exact ⟨rfl, hk2⟩
              exact AllReadyH.nil
          case rest =>
            obtain ⟨rfl, hk⟩ := hcut
            have HXC : Hid (BxA wc g0 0 0 (.slice none 0 0)) := HX2.out.under hk
            have HAC : Hid (BxA wc gx 1 z (.slice none 0 0)) := HA2.out.under hk
            have HBC : Hid (Below g0 w wc) := HB2.out.trans (hk.mono (by omega))
            obtain ⟨e0, e1, e2, f0, f1, f2⟩ := HXC.out.facts
            obtain ⟨p0, p1, p2, -⟩ := HAC.out.facts
            clear hk HCL HTX HCK HPT HX2 HA2 HB2 HV2
            cases D with
            | true =>
              have HE : Hid (R = ⟨0, 1, z, 1 + k⟩) := HD.out.1 rfl
              go_wp2_with fail
              try simp only [Exit.inBlock, Exit.then]
              refine bodyPost_ret (results_a3 rfl _ _ g0 1 z (.slice none 0 0) rfl (HXC.out.set 1 z _)) rfl ?_
              rw [HE.out]
              refine ⟨?_, by rw [hgd]; exact Below.setA HBC.out (Nat.le_refl _) _ _ _⟩
              dsimp only
              rw [if_pos rfl, HQQ.out]
              rfl
            | false =>
              have HE : Hid (R = Rd.bad 4) := HD.out.2 rfl
              go_wp2_with fail
              try simp only [Exit.inBlock, Exit.then]
              refine bodyPost_ret (results_a3 rfl _ _ g0 0 0 (.slice none 0 0) rfl (HXC.out.set 0 0 _)) rfl ?_
              rw [HE.out]
              refine SmPost.bad (by decide) ?_
              rw [hgd]
              exact Below.setA HBC.out (Nat.le_refl _) _ _ _
        | succ g =>
          have hkn : k < n4 := by omega
          have hki : (k : Int) < ((f : Int) / 32 + 2) := by omega
          obtain ⟨x, hx⟩ : ∃ x, x = (l.getD (p + 1 + k) 0).toNat := ⟨_, rfl⟩
          have hcx := HCELL.out (p + 1 + k) (by omega)
          have hxb : x < 256 := by rw [hx]; exact UInt8.toNat_lt _
          obtain ⟨hb1, hb2⟩ := HBD.out k hkn
          have hst := HST.out k hkn
          rw [← hx] at hcx hst
          obtain ⟨Z, hZ⟩ : ∃ Z, Z = accN B (r.take k) := ⟨_, rfl⟩
          rw [← hZ] at hb1 hb2 hst
          have HNEW : Hid (accN B (r.take (k + 1)) = Z * 256 + (x : Int)) := hst
          have hidx : (p : Int) + 1 + (k : Int) < (l.length : Int) := by omega
          have hidc : (p : Int) + 1 + (k : Int) < (cap : Int) := by omega
          clear hst
          by_cases hk0 : k = 0
          · subst hk0
            have hcy : w1.cell? ⟨b, off + (p + 1), none⟩ = some (.int .u8 (x : Int)) := hcx
            have hz00 : z = 0 := by
              rcases HZ.out with ⟨h1, h2⟩ | ⟨h1, h2⟩
              · exact h2
              · omega
            subst hz00
            have hZB : Z = if 128 ≤ x then -1 else 0 := by rw [hZ, hz0, hx]; exact HBG.out
            clear HZ HST HBD HCELL hZ hx
            by_cases hx8 : 128 ≤ x
            · have hZ1 : Z = -1 := by rw [hZB, if_pos hx8]
              subst hZ1
              have hgt : (127 : Int) < (x : Int) := by omega
              clear hZB
              go_wp2_with fail
              go_roundg g
              case measure => omega
              case rel => exact ⟨0 + 1, _, by omega, rfl, by go_num, rfl, .inr ⟨by omega, by have := HNEW.out; omega⟩⟩
            · have hZ1 : Z = 0 := by rw [hZB, if_neg hx8]
              subst hZ1
              have hgt : ¬ (127 : Int) < (x : Int) := by omega
              clear hZB
              go_wp2_with fail
              go_roundg g
              case measure => omega
              case rel => exact ⟨0 + 1, _, by omega, rfl, by go_num, rfl, .inr ⟨by omega, by have := HNEW.out; omega⟩⟩
          · have hkb : ((k : Int) == 0) = false := by simp; omega
            have hzz : z = Z := by
              rcases HZ.out with ⟨h1, h2⟩ | ⟨h1, h2⟩
              · omega
              · rw [h2, hZ]
            subst hzz
            clear HZ HST HBD HCELL hZ hx
            go_wp2_with fail
            go_roundg g
            case measure => omega
            case rel => exact ⟨k + 1, _, by omega, rfl, by go_num, rfl, .inr ⟨by omega, by have := HNEW.out; omega⟩⟩
  have c4b : (tg == 1) = false := by simp [c4]
  have c4c : (tg != 1) = true := by simp [c4]
  by_cases c5 : (4 : Int) < (f : Int) / 32 + 2
  · rcases Classical.em ((8 : Int) < (f : Int) / 32 + 2) with c6 | c6
    all_goals
      have HE : Hid (R = Rd.bad 4) := by unfold Hid; rw [HNS.out, if_pos (by unfold szF; rw [if_neg (by omega), if_neg c2, if_neg c3]; have := HTG.out; simp; rw [if_neg (by omega)]; omega)]
      clear HNS htg
      go_enter Tryd.func40, Tryd.ntmps40
      go_wp2_with fail
      try simp only [Exit.inBlock, Exit.then]
      refine bodyPost_ret (results_a3 rfl _ _ g0 0 0 (.slice none 0 0) rfl (HX1.out.set 0 0 _)) rfl ?_
      rw [HE.out]
      refine SmPost.bad (by decide) ?_
      rw [hgd]
      exact Below.setA HB1.out (Nat.le_refl _) _ _ _
  have c6 : ¬ (8 : Int) < (f : Int) / 32 + 2 := by omega
  have hsz : szF f = (((n4 : Nat) : Int), true) := by unfold szF; rw [if_neg (by omega), if_neg c2, if_neg c3, if_neg (by omega), ← hn4, decide_eq_true (by omega)]
  have hni : ((n4 : Nat) : Int) = ((f : Int) / 32 + 2) := by omega
  have HNV : Hid (R = if (l.length : Int) - (p : Int) - 1 < ((f : Int) / 32 + 2) then Rd.bad 3 else numV l p f n4) := by
    unfold Hid
    rw [HNS.out, hsz]
    dsimp only
    rw [if_neg (by decide), Int.toNat_natCast, hni]
  by_cases hC : (l.length : Int) - (p : Int) - 1 < ((f : Int) / 32 + 2)
  · have HE : Hid (R = Rd.bad 3) := by unfold Hid; rw [HNV.out, if_pos hC]
    clear HNS htg HNV hsz
    go_enter Tryd.func40, Tryd.ntmps40
    go_wp2_with fail
    try simp only [Exit.inBlock, Exit.then]
    refine bodyPost_ret (results_a3 rfl _ _ g0 0 0 (.slice none 0 0) rfl (HX1.out.set 0 0 _)) rfl ?_
    rw [HE.out]
    refine SmPost.bad (by decide) ?_
    rw [hgd]
    exact Below.setA HB1.out (Nat.le_refl _) _ _ _
  have HNW : Hid (R = numV l p f n4) := by unfold Hid; rw [HNV.out, if_neg hC]
  obtain ⟨r, hr⟩ : ∃ r, (l.drop (p + 1)).take n4 = r := ⟨_, rfl⟩
  have hrl : r.length = n4 := by rw [← hr]; simp <;> omega
  have hFol : Fol f r := ⟨by rw [hsz], by rw [hsz, hrl]⟩
  have hrg : ∀ k, k < n4 → (r.getD k 0).toNat = (l.getD (p + 1 + k) 0).toNat := fun k hk => by rw [← hr, getD_take _ _ _ hk, getD_drop]
  have HBD : Hid (∀ k, k < n4 → -36028797018963968 ≤ accN (begN f r) (r.take k) ∧ accN (begN f r) (r.take k) < 36028797018963968) := fun k hk => beg_bd hFol hf2 k (by omega)
  have HST : Hid (∀ k, k < n4 → accN (begN f r) (r.take (k + 1)) = accN (begN f r) (r.take k) * 256 + ((l.getD (p + 1 + k) 0).toNat : Int)) := by
    intro k hk
    rw [List.take_succ_eq_append_getElem (show k < r.length by omega), acc_snoc, ← hrg k hk, List.getD_eq_getElem?_getD, List.getElem?_eq_getElem (show k < r.length by omega)]
    rfl
  obtain ⟨V, hV⟩ : ∃ V, valN f r = V := ⟨_, rfl⟩
  have HV : Hid (accN (begN f r) (r.take n4) = V) := by unfold Hid; rw [← hV, ← hrl, List.take_length]; rfl
  have hVb := val_bd hFol hf2
  rw [hV] at hVb
  have HBG : Hid (begN f r = 0) := by
    unfold Hid begN
    rw [if_neg c2, if_neg c3, if_neg (by omega)]
  have HNX : Hid (R = if okN1 tg V = true ∧ sglB tg V = (l.drop p).take (1 + n4) then ⟨0, tg, V, 1 + n4⟩ else Rd.bad 4) := by
    unfold Hid
    rw [HNW.out]
    unfold numV
    rw [hr, hV, ← htg]
  have hz0 : accN (begN f r) (r.take 0) = begN f r := rfl
  generalize begN f r = B at *
  clear HNS htg HNV hsz hFol hrg hr hV HNW hrl
  go_enter Tryd.func40, Tryd.ntmps40
  go_wp2_with fail
  go_loopg [10, 11] n4 (fun gk s10 s11 wr => ∃ (k : Nat) (z : Int), k + gk = n4 ∧ s10 = .int .i64 z ∧ s11 = .int .i64 (k : Int) ∧ w1 = wr ∧ Hid ((k = 0 ∧ z = 0) ∨ (0 < k ∧ z = accN B (r.take k))))
  case atStart => exact ⟨0, _, by omega, rfl, rfl, rfl, .inl ⟨rfl, rfl⟩⟩
  case round =>
    obtain ⟨k, z, hk, rfl, rfl, rfl, HZ⟩ := hrel
    cases gk with
    | zero =>
      obtain rfl : k = n4 := by omega
      have hzV : z = V := by
        rcases HZ.out with ⟨h1, h2⟩ | ⟨h1, h2⟩
        · omega
        · rw [h2]; exact HV.out
      subst hzV
      clear HZ HV HST HBD HBG hz0
      have ht5 : tg ≤ 5 := by omega
      have ht70 : (0 : Int) ≤ tg := by omega
      obtain ⟨D, hD⟩ : ∃ D, decide (okN1 tg z = true ∧ sglB tg z = (l.drop p).take (1 + k)) = D := ⟨_, rfl⟩
      have HD : Hid ((D = true → R = ⟨0, tg, z, 1 + k⟩) ∧ (D = false → R = Rd.bad 4)) := by
        unfold Hid
        rw [HNX.out, ← hD]
        constructor
        · intro h; rw [if_pos (of_decide_eq_true h)]
        · intro h; rw [if_neg (of_decide_eq_false h)]
      obtain ⟨q, hq⟩ : ∃ q, q = p + 1 + k := ⟨_, rfl⟩
      obtain ⟨p1, hp1⟩ : ∃ p1, p1 = p + 1 := ⟨_, rfl⟩
      have hqe0 : (p : Int) + 1 = (p1 : Int) := by omega
      have hwp : IntKind.i64.wrap (p1 : Int) = (p1 : Int) := by rw [IntKind.wrap_i64]; omega
      have hqe1 : (p1 : Int) + ((f : Int) / 32 + 2) = (q : Int) := by omega
      have hwq : IntKind.i64.wrap (q : Int) = (q : Int) := by rw [IntKind.wrap_i64]; omega
      have hqp : q - p = 1 + k := by omega
      have HQQ : Hid (p + (1 + k) = q) := by unfold Hid; omega
      have hq1 : (p : Int) ≤ (q : Int) := by omega
      have hq2 : (q : Int) ≤ (l.length : Int) := by omega
      have hq3 : (q : Int) ≤ (cap : Int) := by omega
      have bA := (Below.refl w1.heap.size w1).alloc (Nat.le_refl _) (.cells #[.int .i64 tg, .int .i64 z, .slice none 0 0] 25)
      have HX2 : Hid (BxA (w1.alloc (.cells #[.int .i64 tg, .int .i64 z, .slice none 0 0] 25)) g0 0 0 (.slice none 0 0)) := HX1.out.under bA
      have HA2 : Hid (BxA (w1.alloc (.cells #[.int .i64 tg, .int .i64 z, .slice none 0 0] 25)) w1.heap.size tg z (.slice none 0 0)) := BxA.new _ _ _ _
      have HB2 : Hid (Below g0 w (w1.alloc (.cells #[.int .i64 tg, .int .i64 z, .slice none 0 0] 25))) := HB1.out.trans (bA.mono (by omega))
      have HV2 : Hid (By (w1.alloc (.cells #[.int .i64 tg, .int .i64 z, .slice none 0 0] 25)) (.slice (some ⟨b, off, none⟩) l.length cap) l) := HV1.out.under bA
      obtain ⟨ob, hob⟩ : ∃ ob, ob = if cap = p then off else off + p := ⟨_, rfl⟩
      have hob2 : (if cap = p then some (⟨b, off, none⟩ : Addr) else some ⟨b, off + p, none⟩) = some ⟨b, ob, none⟩ := by rw [hob]; split <;> rfl
      have hsub := HV2.out.sub p q ob (by omega) (by omega) hob
      obtain ⟨S2, hS2⟩ : ∃ S2 : ByteArray, S2 = ⟨((l.drop p).take (q - p)).toArray⟩ := ⟨_, rfl⟩
      obtain ⟨S1, hS1⟩ : ∃ S1 : ByteArray, S1 = ⟨(sglB tg z).toArray⟩ := ⟨_, rfl⟩
      have hSS : (S1.toList == S2.toList) = decide (sglB tg z = (l.drop p).take (1 + k)) := by rw [hS1, hS2, bytes_eq, hqp]
      have HTX : Hid (∀ W, Below (w1.alloc (.cells #[.int .i64 tg, .int .i64 z, .slice none 0 0] 25)).heap.size (w1.alloc (.cells #[.int .i64 tg, .int .i64 z, .slice none 0 0] 25)) W → (convert 22 9 (.slice (some ⟨b, ob, none⟩) (q - p) (cap - p))).run Tryd.prog W = .ok (.string S2) W) := fun W hW => by
        have := (hsub.under hW).text
        rw [hS2]; exact this
      have HCK : Hid (∀ W, Calls Tryd.prog 12 #[.agg #[.int .i64 tg, .int .i64 z, .slice none 0 0]] W (CxPost W (okN1 tg z))) := fun W => by
        have := rcx_any W ⟨tg, z, none, 0, 0⟩ [] (fit_mk ht70 (by omega) hVb) (Rw3.nil _) rfl
        rw [show El.ok ⟨tg, z, none, 0, 0⟩ [] = okN1 tg z by unfold El.ok El.ok1; dsimp only; rw [if_neg (by omega)]; simp] at this
        exact this
      have HPT : Hid (okN1 tg z = true → ∀ W, Calls Tryd.prog 38 #[.agg #[.int .i64 tg, .int .i64 z, .slice none 0 0]] W (RnPost W (sglB tg z))) := fun ho W => rput_sgl W tg z none 0 0 ho
      have HS1 : Hid (S1 = ⟨(sglB tg z).toArray⟩) := hS1
      have hex : ¬ (k : Int) < ((f : Int) / 32 + 2) := by omega
      clear hsub hob hS1 hS2 HNX HX1 HV1 hq hqp HCELL HTG HFF hni hp1 hn4
      go_wp2_with fail
      generalize w1.alloc (.cells #[.int .i64 tg, .int .i64 z, .slice none 0 0] 25) = w2 at *
      generalize w1.heap.size = gx at *
      have HCL : Hid (∀ W, Below w2.heap.size w2 W → W.cell? ⟨gx, 0, none⟩ = some (.int .i64 tg) ∧ W.cell? ⟨gx, 1, none⟩ = some (.int .i64 z) ∧ W.cell? ⟨gx, 2, none⟩ = some (.slice none 0 0)) := fun W hW => by
        obtain ⟨c0, c1, c2, -⟩ := (HA2.out.under hW).facts
        exact ⟨c0, c1, c2⟩
      have hw2 := HB2.out.size
      go_cut [131] from 115 (fun s wc => s = .bool (!D) ∧ Below w2.heap.size w2 wc)
      case first =>
        obtain ⟨ok, hok⟩ : ∃ ok, okN1 tg z = ok := ⟨_, rfl⟩
        rw [hok] at HCK HPT hD
        cases ok
        · have hDf : D = false := by rw [← hD]; simp
          subst hDf
          clear HD HPT HTX hD hSS
          refine wp_region_noPanic ?_
          refine wp_region_held_drew (S := (fun W' => W'.cell? ⟨gx, 0, none⟩ = some (.int .i64 tg) ∧ W'.cell? ⟨gx, 1, none⟩ = some (.int .i64 z) ∧ W'.cell? ⟨gx, 2, none⟩ = some (.slice none 0 0))) (by kernel_rfl) ?_ (fun hHeld => ?_)
          · exact HCL.out _ ((Below.refl _ _).drew)
          refine wpAnyH_take (i := 0) (v := ?_) (opNth_ops rfl) (by kernel_rfl) (by kernel_rfl) (by kernel_rfl) (fun _ _ _ h => h) (Or.inl ⟨by rfl, ?_⟩) (by assumption) ?_
          rotate_left
          · intro wq hSq
            go_simp
            try with_reducible rfl
          try simp only [Act.put, List.setIfInBounds_toArray, List.set_cons_zero, List.set_cons_succ]
          refine wpAnyH_ready (rs := [1]) (by kernel_rfl) (by simp) ?_
          refine AllReadyH.cons (opNth_ops rfl) (fun K hK => ?_) ?_
          rotate_left
          exact AllReadyH.nil
          go_simp
          go_at_call 12
          refine (HCK.out _).mono ?_
          rintro e x1 ⟨rfl, b1⟩
          have hk1 : Below w2.heap.size w2 x1 := ((Below.refl _ _).drew).trans (b1.mono (Nat.le_refl _))
          go_wp2_with fail
          refine hK.out _ _ ?_ (fun hHeld => ?_)
          · exact HCL.out _ hk1
          clear hK K
          try simp only [Act.put, List.setIfInBounds_toArray, List.set_cons_zero, List.set_cons_succ]
          refine wpAnyH_take (i := 2) (v := ?_) (opNth_ops rfl) (by kernel_rfl) (by kernel_rfl) (by kernel_rfl) (fun _ _ _ h => h) (Or.inl ⟨by rfl, ?_⟩) (by assumption) ?_
          rotate_left
          · intro wq hSq
            go_simp
            try with_reducible rfl
          try simp only [Act.put, List.setIfInBounds_toArray, List.set_cons_zero, List.set_cons_succ]
          refine wpAnyH_take (i := 3) (v := ?_) (opNth_ops rfl) (by kernel_rfl) (by kernel_rfl) (by kernel_rfl) (fun _ _ _ h => h) (Or.inl ⟨by rfl, ?_⟩) (by assumption) ?_
          rotate_left
          · intro wq hSq
            go_simp
            try with_reducible rfl
          try simp only [Act.put, List.setIfInBounds_toArray, List.set_cons_zero, List.set_cons_succ]
          refine wpAnyH_take (i := 4) (v := undef) (opNth_ops rfl) (by kernel_rfl) (by kernel_rfl) (by kernel_rfl) (fun _ _ _ h => h) (Or.inr ⟨by rfl, rfl⟩) (by assumption) ?_
          try simp only [Act.put, List.setIfInBounds_toArray, List.set_cons_zero, List.set_cons_succ]
          refine wpAnyH_take (i := 5) (v := undef) (opNth_ops rfl) (by kernel_rfl) (by kernel_rfl) (by kernel_rfl) (fun _ _ _ h => h) (Or.inr ⟨by rfl, rfl⟩) (by assumption) ?_
          try simp only [Act.put, List.setIfInBounds_toArray, List.set_cons_zero, List.set_cons_succ]
          refine wpAnyH_take (i := 6) (v := undef) (opNth_ops rfl) (by kernel_rfl) (by kernel_rfl) (by kernel_rfl) (fun _ _ _ h => h) (Or.inr ⟨by rfl, rfl⟩) (by assumption) ?_
          try simp only [Act.put, List.setIfInBounds_toArray, List.set_cons_zero, List.set_cons_succ]
          refine wpAnyH_take (i := 7) (v := undef) (opNth_ops rfl) (by kernel_rfl) (by kernel_rfl) (by kernel_rfl) (fun _ _ _ h => h) (Or.inr ⟨by rfl, rfl⟩) (by assumption) ?_
          try simp only [Act.put, List.setIfInBounds_toArray, List.set_cons_zero, List.set_cons_succ]
          refine wpAnyH_take (i := 8) (v := undef) (opNth_ops rfl) (by kernel_rfl) (by kernel_rfl) (by kernel_rfl) (fun _ _ _ h => h) (Or.inr ⟨by rfl, rfl⟩) (by assumption) ?_
          try simp only [Act.put, List.setIfInBounds_toArray, List.set_cons_zero, List.set_cons_succ]
          refine wpAnyH_take (i := 9) (v := undef) (opNth_ops rfl) (by kernel_rfl) (by kernel_rfl) (by kernel_rfl) (fun _ _ _ h => h) (Or.inr ⟨by rfl, rfl⟩) (by assumption) ?_
          try simp only [Act.put, List.setIfInBounds_toArray, List.set_cons_zero, List.set_cons_succ]
          refine wpAnyH_take (i := 10) (v := undef) (opNth_ops rfl) (by kernel_rfl) (by kernel_rfl) (by kernel_rfl) (fun _ _ _ h => h) (Or.inr ⟨by rfl, rfl⟩) (by assumption) ?_
          try simp only [Act.put, List.setIfInBounds_toArray, List.set_cons_zero, List.set_cons_succ]
          refine wpAnyH_take (i := 11) (v := undef) (opNth_ops rfl) (by kernel_rfl) (by kernel_rfl) (by kernel_rfl) (fun _ _ _ h => h) (Or.inr ⟨by rfl, rfl⟩) (by assumption) ?_
          try simp only [Act.put, List.setIfInBounds_toArray, List.set_cons_zero, List.set_cons_succ]
          refine wpAnyH_take (i := 12) (v := undef) (opNth_ops rfl) (by kernel_rfl) (by kernel_rfl) (by kernel_rfl) (fun _ _ _ h => h) (Or.inr ⟨by rfl, rfl⟩) (by assumption) ?_
          try simp only [Act.put, List.setIfInBounds_toArray, List.set_cons_zero, List.set_cons_succ]
          refine wpAnyH_take (i := 13) (v := undef) (opNth_ops rfl) (by kernel_rfl) (by kernel_rfl) (by kernel_rfl) (fun _ _ _ h => h) (Or.inr ⟨by rfl, rfl⟩) (by assumption) ?_
          try simp only [Act.put, List.setIfInBounds_toArray, List.set_cons_zero, List.set_cons_succ]
          refine wpAnyH_take (i := 14) (v := undef) (opNth_ops rfl) (by kernel_rfl) (by kernel_rfl) (by kernel_rfl) (fun _ _ _ h => h) (Or.inr ⟨by rfl, rfl⟩) (by assumption) ?_
          try simp only [Act.put, List.setIfInBounds_toArray, List.set_cons_zero, List.set_cons_succ]
          refine wpAnyH_take (i := 15) (v := undef) (opNth_ops rfl) (by kernel_rfl) (by kernel_rfl) (by kernel_rfl) (fun _ _ _ h => h) (Or.inr ⟨by rfl, rfl⟩) (by assumption) ?_
          try simp only [Act.put, List.setIfInBounds_toArray, List.set_cons_zero, List.set_cons_succ]
          refine wpAnyH_take (i := 16) (v := ?_) (opNth_ops rfl) (by kernel_rfl) (by kernel_rfl) (by kernel_rfl) (fun _ _ _ h => h) (Or.inl ⟨by rfl, ?_⟩) (by assumption) ?_
          rotate_left
          · intro wq hSq
            go_simp
            try with_reducible rfl
          try simp only [Act.put, List.setIfInBounds_toArray, List.set_cons_zero, List.set_cons_succ]
          refine wpAnyH_done (by kernel_rfl) ?_ _
          refine NoPanic.normal ?_
          go_wp2_with fail
          go_meet
          case rel => exact ⟨rfl, hk1⟩
        · have hDD : (S1.toList == S2.toList) = D := by rw [hSS, ← hD]; simp
          have HPT2 := HPT.out rfl
          have HPT3 : Hid (∀ W, Calls Tryd.prog 38 #[.agg #[.int .i64 tg, .int .i64 z, .slice none 0 0]] W (RnPost W (sglB tg z))) := HPT2
          clear HD hD hSS HPT HPT2
          refine wp_region_noPanic ?_
          refine wp_region_held_drew (S := (fun W' => W'.cell? ⟨gx, 0, none⟩ = some (.int .i64 tg) ∧ W'.cell? ⟨gx, 1, none⟩ = some (.int .i64 z) ∧ W'.cell? ⟨gx, 2, none⟩ = some (.slice none 0 0))) (by kernel_rfl) ?_ (fun hHeld => ?_)
          · exact HCL.out _ ((Below.refl _ _).drew)
          refine wpAnyH_take (i := 0) (v := ?_) (opNth_ops rfl) (by kernel_rfl) (by kernel_rfl) (by kernel_rfl) (fun _ _ _ h => h) (Or.inl ⟨by rfl, ?_⟩) (by assumption) ?_
          rotate_left
          · intro wq hSq
            go_simp
            try with_reducible rfl
          try simp only [Act.put, List.setIfInBounds_toArray, List.set_cons_zero, List.set_cons_succ]
          refine wpAnyH_ready (rs := [1]) (by kernel_rfl) (by simp) ?_
          refine AllReadyH.cons (opNth_ops rfl) (fun K hK => ?_) ?_
          rotate_left
          exact AllReadyH.nil
          go_simp
          go_at_call 12
          refine (HCK.out _).mono ?_
          rintro e x1 ⟨rfl, b1⟩
          have hk1 : Below w2.heap.size w2 x1 := ((Below.refl _ _).drew).trans (b1.mono (Nat.le_refl _))
          have tx1 := HTX.out x1 hk1
          go_wp2_with fail
          refine hK.out _ _ ?_ (fun hHeld => ?_)
          · exact HCL.out _ hk1
          clear hK K
          try simp only [Act.put, List.setIfInBounds_toArray, List.set_cons_zero, List.set_cons_succ]
          refine wpAnyH_take (i := 2) (v := ?_) (opNth_ops rfl) (by kernel_rfl) (by kernel_rfl) (by kernel_rfl) (fun _ _ _ h => h) (Or.inl ⟨by rfl, ?_⟩) (by assumption) ?_
          rotate_left
          · intro wq hSq
            go_simp
            try with_reducible rfl
          try simp only [Act.put, List.setIfInBounds_toArray, List.set_cons_zero, List.set_cons_succ]
          refine wpAnyH_take (i := 3) (v := ?_) (opNth_ops rfl) (by kernel_rfl) (by kernel_rfl) (by kernel_rfl) (fun _ _ _ h => h) (Or.inl ⟨by rfl, ?_⟩) (by assumption) ?_
          rotate_left
          · intro wq hSq
            go_simp
            try with_reducible rfl
          try simp only [Act.put, List.setIfInBounds_toArray, List.set_cons_zero, List.set_cons_succ]
          refine wpAnyH_take (i := 4) (v := ?_) (opNth_ops rfl) (by kernel_rfl) (by kernel_rfl) (by kernel_rfl) (fun _ _ _ h => h) (Or.inl ⟨by rfl, ?_⟩) (by assumption) ?_
          rotate_left
          · intro wq hSq
            go_simp
            try with_reducible rfl
          try simp only [Act.put, List.setIfInBounds_toArray, List.set_cons_zero, List.set_cons_succ]
          refine wpAnyH_take (i := 7) (v := ?_) (opNth_ops rfl) (by kernel_rfl) (by kernel_rfl) (by kernel_rfl) (fun _ _ _ h => h) (Or.inl ⟨by rfl, ?_⟩) (by assumption) ?_
          rotate_left
          · intro wq hSq
            go_simp
            try with_reducible rfl
          try simp only [Act.put, List.setIfInBounds_toArray, List.set_cons_zero, List.set_cons_succ]
          refine wpAnyH_take (i := 8) (v := ?_) (opNth_ops rfl) (by kernel_rfl) (by kernel_rfl) (by kernel_rfl) (fun _ _ _ h => h) (Or.inl ⟨by rfl, ?_⟩) (by assumption) ?_
          rotate_left
          · intro wq hSq
            go_simp
            try with_reducible rfl
          try simp only [Act.put, List.setIfInBounds_toArray, List.set_cons_zero, List.set_cons_succ]
          refine wpAnyH_take (i := 9) (v := ?_) (opNth_ops rfl) (by kernel_rfl) (by kernel_rfl) (by kernel_rfl) (fun _ _ _ h => h) (Or.inl ⟨by rfl, ?_⟩) (by assumption) ?_
          rotate_left
          · intro wq hSq
            go_simp
            try with_reducible rfl
          try simp only [Act.put, List.setIfInBounds_toArray, List.set_cons_zero, List.set_cons_succ]
          refine wpAnyH_take (i := 10) (v := ?_) (opNth_ops rfl) (by kernel_rfl) (by kernel_rfl) (by kernel_rfl) (fun _ _ _ h => h) (Or.inl ⟨by rfl, ?_⟩) (by assumption) ?_
          rotate_left
          · intro wq hSq
            go_simp
            try with_reducible rfl
          try simp only [Act.put, List.setIfInBounds_toArray, List.set_cons_zero, List.set_cons_succ]
          refine wpAnyH_take (i := 11) (v := ?_) (opNth_ops rfl) (by kernel_rfl) (by kernel_rfl) (by kernel_rfl) (fun _ _ _ h => h) (Or.inl ⟨by rfl, ?_⟩) (by assumption) ?_
          rotate_left
          · intro wq hSq
            go_simp
            try with_reducible rfl
          try simp only [Act.put, List.setIfInBounds_toArray, List.set_cons_zero, List.set_cons_succ]
          refine wpAnyH_take (i := 12) (v := ?_) (opNth_ops rfl) (by kernel_rfl) (by kernel_rfl) (by kernel_rfl) (fun _ _ _ h => h) (Or.inl ⟨by rfl, ?_⟩) (by assumption) ?_
          rotate_left
          · intro wq hSq
            go_simp
            try with_reducible rfl
          try simp only [Act.put, List.setIfInBounds_toArray, List.set_cons_zero, List.set_cons_succ]
          refine wpAnyH_take (i := 13) (v := ?_) (opNth_ops rfl) (by kernel_rfl) (by kernel_rfl) (by kernel_rfl) (fun _ _ _ h => h) (Or.inl ⟨by rfl, ?_⟩) (by assumption) ?_
          rotate_left
          · intro wq hSq
            go_simp
            try with_reducible rfl
          try simp only [Act.put, List.setIfInBounds_toArray, List.set_cons_zero, List.set_cons_succ]
          refine wpAnyH_ready (rs := [5, 14]) (by kernel_rfl) (by simp) ?_
          refine AllReadyH.cons (opNth_ops rfl) (fun K hK => ?_) ?_
          · go_simp
            go_at_call 38
            refine (HPT3.out _).mono ?_
            rintro e x2 ⟨v2, rfl, o2, b2⟩
            have hk2 : Below w2.heap.size w2 x2 := hk1.trans (b2.mono hk1.size)
            obtain ⟨a2, k2, rfl, -⟩ := o2.by.shape
            have t2 := o2.by.text
            rw [← HS1.out] at t2
            have tx2 := HTX.out x2 hk2
            go_wp2_with fail
            refine hK.out _ _ ?_ (fun hHeld => ?_)
            · exact HCL.out _ hk2
            clear hK K
            try simp only [Act.put, List.setIfInBounds_toArray, List.set_cons_zero, List.set_cons_succ]
            refine wpAnyH_ready (rs := [6, 14]) (by kernel_rfl) (by simp) ?_
            refine AllReadyH.cons (opNth_ops rfl) (fun K hK => ?_) ?_
            · go_simp
              refine hK.out _ _ ?_ (fun hHeld => ?_)
              · exact HCL.out _ hk2
              clear hK K
              try simp only [Act.put, List.setIfInBounds_toArray, List.set_cons_zero, List.set_cons_succ]
              refine wpAnyH_ready (rs := [14]) (by kernel_rfl) (by simp) ?_
              refine AllReadyH.cons (opNth_ops rfl) (fun K hK => ?_) ?_
              rotate_left
              exact AllReadyH.nil
              go_simp
              refine hK.out _ _ ?_ (fun hHeld => ?_)
              · exact HCL.out _ hk2
              clear hK K
              try simp only [Act.put, List.setIfInBounds_toArray, List.set_cons_zero, List.set_cons_succ]
              refine wpAnyH_take (i := 15) (v := ?_) (opNth_ops rfl) (by kernel_rfl) (by kernel_rfl) (by kernel_rfl) (fun _ _ _ h => h) (Or.inl ⟨by rfl, ?_⟩) (by assumption) ?_
              rotate_left
              · intro wq hSq
                go_simp
                try with_reducible rfl
              try simp only [Act.put, List.setIfInBounds_toArray, List.set_cons_zero, List.set_cons_succ]
              refine wpAnyH_take (i := 16) (v := ?_) (opNth_ops rfl) (by kernel_rfl) (by kernel_rfl) (by kernel_rfl) (fun _ _ _ h => h) (Or.inl ⟨by rfl, ?_⟩) (by assumption) ?_
              rotate_left
              · intro wq hSq
                go_simp
                try with_reducible rfl
              try simp only [Act.put, List.setIfInBounds_toArray, List.set_cons_zero, List.set_cons_succ]
              refine wpAnyH_done (by kernel_rfl) ?_ _
              refine NoPanic.normal ?_
              go_wp2_with fail
              go_meet
              case rel => exact ⟨rfl, hk2⟩
            refine AllReadyH.cons (opNth_ops rfl) (fun K hK => ?_) ?_
            · go_simp
              refine hK.out _ _ ?_ (fun hHeld => ?_)
              · exact HCL.out _ hk2
              clear hK K
              try simp only [Act.put, List.setIfInBounds_toArray, List.set_cons_zero, List.set_cons_succ]
              refine wpAnyH_ready (rs := [6]) (by kernel_rfl) (by simp) ?_
              refine AllReadyH.cons (opNth_ops rfl) (fun K hK => ?_) ?_
              rotate_left
              exact AllReadyH.nil
              go_simp
              refine hK.out _ _ ?_ (fun hHeld => ?_)
              · exact HCL.out _ hk2
              clear hK K
              try simp only [Act.put, List.setIfInBounds_toArray, List.set_cons_zero, List.set_cons_succ]
              refine wpAnyH_take (i := 15) (v := ?_) (opNth_ops rfl) (by kernel_rfl) (by kernel_rfl) (by kernel_rfl) (fun _ _ _ h => h) (Or.inl ⟨by rfl, ?_⟩) (by assumption) ?_
              rotate_left
              · intro wq hSq
                go_simp
                try with_reducible rfl
              try simp only [Act.put, List.setIfInBounds_toArray, List.set_cons_zero, List.set_cons_succ]
              refine wpAnyH_take (i := 16) (v := ?_) (opNth_ops rfl) (by kernel_rfl) (by kernel_rfl) (by kernel_rfl) (fun _ _ _ h => h) (Or.inl ⟨by rfl, ?_⟩) (by assumption) ?_
              rotate_left
              · intro wq hSq
                go_simp
                try with_reducible rfl
              try simp only [Act.put, List.setIfInBounds_toArray, List.set_cons_zero, List.set_cons_succ]
              refine wpAnyH_done (by kernel_rfl) ?_ _
              refine NoPanic.normal ?_
              go_wp2_with fail
              go_meet
              case rel => exact ⟨rfl, hk2⟩
            exact AllReadyH.nil
          refine AllReadyH.cons (opNth_ops rfl) (fun K hK => ?_) ?_
          · go_simp
            refine hK.out _ _ ?_ (fun hHeld => ?_)
            · exact HCL.out _ hk1
            clear hK K
            try simp only [Act.put, List.setIfInBounds_toArray, List.set_cons_zero, List.set_cons_succ]
            refine wpAnyH_ready (rs := [5]) (by kernel_rfl) (by simp) ?_
            refine AllReadyH.cons (opNth_ops rfl) (fun K hK => ?_) ?_
            rotate_left
            exact AllReadyH.nil
            go_simp
            go_at_call 38
            refine (HPT3.out _).mono ?_
            rintro e x2 ⟨v2, rfl, o2, b2⟩
            have hk2 : Below w2.heap.size w2 x2 := hk1.trans (b2.mono hk1.size)
            obtain ⟨a2, k2, rfl, -⟩ := o2.by.shape
            have t2 := o2.by.text
            rw [← HS1.out] at t2
            have tx2 := HTX.out x2 hk2
            go_wp2_with fail
            refine hK.out _ _ ?_ (fun hHeld => ?_)
            · exact HCL.out _ hk2
            clear hK K
            try simp only [Act.put, List.setIfInBounds_toArray, List.set_cons_zero, List.set_cons_succ]
            refine wpAnyH_ready (rs := [6]) (by kernel_rfl) (by simp) ?_
            refine AllReadyH.cons (opNth_ops rfl) (fun K hK => ?_) ?_
            rotate_left
            exact AllReadyH.nil
            go_simp
            refine hK.out _ _ ?_ (fun hHeld => ?_)
            · exact HCL.out _ hk2
            clear hK K
            try simp only [Act.put, List.setIfInBounds_toArray, List.set_cons_zero, List.set_cons_succ]
            refine wpAnyH_take (i := 15) (v := ?_) (opNth_ops rfl) (by kernel_rfl) (by kernel_rfl) (by kernel_rfl) (fun _ _ _ h => h) (Or.inl ⟨by rfl, ?_⟩) (by assumption) ?_
            rotate_left
            · intro wq hSq
              go_simp
              try with_reducible rfl
            try simp only [Act.put, List.setIfInBounds_toArray, List.set_cons_zero, List.set_cons_succ]
            refine wpAnyH_take (i := 16) (v := ?_) (opNth_ops rfl) (by kernel_rfl) (by kernel_rfl) (by kernel_rfl) (fun _ _ _ h => h) (Or.inl ⟨by rfl, ?_⟩) (by assumption) ?_
            rotate_left
            · intro wq hSq
              go_simp
              try with_reducible rfl
            try simp only [Act.put, List.setIfInBounds_toArray, List.set_cons_zero, List.set_cons_succ]
            refine wpAnyH_done (by kernel_rfl) ?_ _
            refine NoPanic.normal ?_
            go_wp2_with fail
            go_meet
            case rel => exact ⟨rfl, hk2⟩
          exact AllReadyH.nil
      case rest =>
        obtain ⟨rfl, hk⟩ := hcut
        have HXC : Hid (BxA wc g0 0 0 (.slice none 0 0)) := HX2.out.under hk
        have HAC : Hid (BxA wc gx tg z (.slice none 0 0)) := HA2.out.under hk
        have HBC : Hid (Below g0 w wc) := HB2.out.trans (hk.mono (by omega))
        obtain ⟨e0, e1, e2, f0, f1, f2⟩ := HXC.out.facts
        obtain ⟨p0, p1, p2, -⟩ := HAC.out.facts
        clear hk HCL HTX HCK HPT HX2 HA2 HB2 HV2
        cases D with
        | true =>
          have HE : Hid (R = ⟨0, tg, z, 1 + k⟩) := HD.out.1 rfl
          go_wp2_with fail
          try simp only [Exit.inBlock, Exit.then]
          refine bodyPost_ret (results_a3 rfl _ _ g0 tg z (.slice none 0 0) rfl (HXC.out.set tg z _)) rfl ?_
          rw [HE.out]
          refine ⟨?_, by rw [hgd]; exact Below.setA HBC.out (Nat.le_refl _) _ _ _⟩
          dsimp only
          rw [if_pos rfl, HQQ.out]
          rfl
        | false =>
          have HE : Hid (R = Rd.bad 4) := HD.out.2 rfl
          go_wp2_with fail
          try simp only [Exit.inBlock, Exit.then]
          refine bodyPost_ret (results_a3 rfl _ _ g0 0 0 (.slice none 0 0) rfl (HXC.out.set 0 0 _)) rfl ?_
          rw [HE.out]
          refine SmPost.bad (by decide) ?_
          rw [hgd]
          exact Below.setA HBC.out (Nat.le_refl _) _ _ _
    | succ g =>
      have hkn : k < n4 := by omega
      have hki : (k : Int) < ((f : Int) / 32 + 2) := by omega
      obtain ⟨x, hx⟩ : ∃ x, x = (l.getD (p + 1 + k) 0).toNat := ⟨_, rfl⟩
      have hcx := HCELL.out (p + 1 + k) (by omega)
      have hxb : x < 256 := by rw [hx]; exact UInt8.toNat_lt _
      obtain ⟨hb1, hb2⟩ := HBD.out k hkn
      have hst := HST.out k hkn
      rw [← hx] at hcx hst
      obtain ⟨Z, hZ⟩ : ∃ Z, Z = accN B (r.take k) := ⟨_, rfl⟩
      rw [← hZ] at hb1 hb2 hst
      have HNEW : Hid (accN B (r.take (k + 1)) = Z * 256 + (x : Int)) := hst
      have hidx : (p : Int) + 1 + (k : Int) < (l.length : Int) := by omega
      have hidc : (p : Int) + 1 + (k : Int) < (cap : Int) := by omega
      clear hst
      by_cases hk0 : k = 0
      · subst hk0
        have hz00 : z = 0 := by
          rcases HZ.out with ⟨h1, h2⟩ | ⟨h1, h2⟩
          · exact h2
          · omega
        subst hz00
        have hZ1 : Z = 0 := by rw [hZ, hz0]; exact HBG.out
        clear HZ HST HBD HCELL hZ hx
        subst hZ1
        go_wp2_with fail
        go_roundg g
        case measure => omega
        case rel => exact ⟨0 + 1, _, by omega, rfl, by go_num, rfl, .inr ⟨by omega, by have := HNEW.out; omega⟩⟩
      · have hkb : ((k : Int) == 0) = false := by simp; omega
        have hzz : z = Z := by
          rcases HZ.out with ⟨h1, h2⟩ | ⟨h1, h2⟩
          · omega
          · rw [h2, hZ]
        subst hzz
        clear HZ HST HBD HCELL hZ hx
        go_wp2_with fail
        go_roundg g
        case measure => omega
        case rel => exact ⟨k + 1, _, by omega, rfl, by go_num, rfl, .inr ⟨by omega, by have := HNEW.out; omega⟩⟩
end Go.Proofs.YtgjjeghnfhjnnaaDoor
