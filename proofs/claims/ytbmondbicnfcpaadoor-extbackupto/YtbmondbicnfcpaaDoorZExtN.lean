import Derived.Test.YtbmondbicnfcpaaDoorZExtD
import Derived.Test.YtbmondbicnfcpaaDoorZExtA
import Derived.Test.YtbmondbicnfcpaaDoorZTermE
import Derived.Test.YtbmondbicnfcpaaDoorZLimbB

/-
  ext: long lists and deep tuples, plain.
-/
namespace Go.Proofs.YtbmondbicnfcpaaDoor
open Go.RowKit
set_option linter.unusedVariables false
set_option linter.unusedSimpArgs false

theorem fst_of {l : List UInt8} {p n d : Nat} (hp : p < l.length) : fstR l p n d = if 2000 ≤ n ∨ 60 < d then (4, shZ) else tagR (shF (l.getD p 0).toNat) := by
  unfold fstR; rw [if_neg (by omega)]
theorem tag_106 {b : UInt8} (h : b = 106) : tagR (shF b.toNat) = (0, ⟨106, 0, 0, 0, 0, 0⟩) := by subst h; rfl
theorem tag_104 {b : UInt8} (h : b = 104) : tagR (shF b.toNat) = (0, ⟨104, 1, 0, 40, 0, 0⟩) := by subst h; rfl
theorem tag_108 {b : UInt8} (h : b = 108) : tagR (shF b.toNat) = (0, ⟨108, 4, 1, 2000, 0, 0⟩) := by subst h; rfl
/-- Nothing may begin there any more. -/
theorem bgn_over {l : List UInt8} {p n d : Nat} (hp : p < l.length) (h : 2000 ≤ n ∨ 60 < d) : bgn l p n d = .bad 4 := by
  unfold bgn
  rw [fst_of hp, if_pos h, if_pos (show (4 : Nat) ≠ 0 by decide)]
theorem bgn_nil {l : List UInt8} {p n d : Nat} (hp : p < l.length) (hb : l.getD p 0 = 106) (hn : n < 2000) (hd : d ≤ 60) : bgn l p n d = ⟨0, tmNil, 0, p + 1, n + 1⟩ := by
  have hf : fstR l p n d = (0, ⟨106, 0, 0, 0, 0, 0⟩) := by rw [fst_of hp, if_neg (by omega), tag_106 hb]
  have hm : manR l (p + 1) n ⟨106, 0, 0, 0, 0, 0⟩ = (0, 0) := by
    unfold manR
    dsimp only
    rw [if_neg (by omega)]
    simp [highL]
  unfold bgn
  rw [hf]
  dsimp only
  rw [if_neg (fun h => h rfl), hm]
  dsimp only
  rw [if_neg (fun h => h rfl)]
  unfold bgn.bgnD
  simp only [Nat.add_zero, Nat.mul_zero]
  rw [if_neg (by omega), if_neg (fun h => absurd h.1 (by omega))]
  simp [rawT]
theorem bgn_tup {l : List UInt8} {p n d : Nat} (hp : p + 1 < l.length) (hb : l.getD p 0 = 104) (hb2 : l.getD (p + 1) 0 = 1) (hn : n < 2000) (hd : d ≤ 60) : bgn l p n d = ⟨0, .mk 5 false [] ⟨#[]⟩ 0 [], 1, p + 2, n + 1⟩ := by
  have hf : fstR l p n d = (0, ⟨104, 1, 0, 40, 0, 0⟩) := by rw [fst_of (by omega), if_neg (by omega), tag_104 hb]
  have hm : manR l (p + 1) n ⟨104, 1, 0, 40, 0, 0⟩ = (0, 1) := by
    have e : (l.drop (p + 1)).take 1 = [1] := by
      rw [List.drop_eq_getElem_cons hp]
      have : l[p + 1] = 1 := by simpa [List.getD, hp] using hb2
      rw [this]; rfl
    unfold manR
    dsimp only
    rw [if_neg (by omega), e]
    simp [highL]
  unfold bgn
  rw [hf]
  dsimp only
  rw [if_neg (fun h => h rfl), hm]
  dsimp only
  rw [if_neg (fun h => h rfl)]
  unfold bgn.bgnD
  simp only [Nat.add_zero, Nat.zero_mul]
  rw [if_neg (by omega), if_neg (fun h => absurd h.1 (by omega))]
  simp [rawT]
theorem bgn_list {l : List UInt8} {p n d k : Nat} (hp : p + 4 < l.length) (hb : l.getD p 0 = 108) (hk : highL ((l.drop (p + 1)).take 4) = k) (hn : n < 2000) (hd : d ≤ 60) : bgn l p n d = if k < 1 ∨ 2000 - n < k then .bad 4 else ⟨0, .mk 4 false [] ⟨#[]⟩ 0 [], k + 1, p + 5, n + k⟩ := by
  have hf : fstR l p n d = (0, ⟨108, 4, 1, 2000, 0, 0⟩) := by rw [fst_of (by omega), if_neg (by omega), tag_108 hb]
  have hm : manR l (p + 1) n ⟨108, 4, 1, 2000, 0, 0⟩ = if k < 1 ∨ 2000 - n < k then (4, 0) else (0, k) := by
    unfold manR
    dsimp only
    rw [if_neg (by omega), hk]
    simp
  by_cases h : k < 1 ∨ 2000 - n < k
  · rw [if_pos h] at hm
    rw [if_pos h]
    unfold bgn
    rw [hf]
    dsimp only
    rw [if_neg (fun h => h rfl), hm]
    rfl
  · rw [if_neg h] at hm
    rw [if_neg h]
    unfold bgn
    rw [hf]
    dsimp only
    rw [if_neg (fun h => h rfl), hm]
    dsimp only
    rw [if_neg (fun h => h rfl)]
    unfold bgn.bgnD
    simp only [Nat.add_zero, Nat.zero_mul]
    rw [if_neg (by omega), if_neg (fun h => absurd h.1 (by omega))]
    simp [rawT]

theorem RT_over {l : List UInt8} {p n d : Nat} (hp : p < l.length) (hn : n ≤ 2000) (h : 2000 ≤ n ∨ 60 < d) : RT l p n d = Rs.bad 4 := by
  rw [RT_eq l p n d hn, bgn_over hp h]; rfl
theorem RT_nil {l : List UInt8} {p n d : Nat} (hp : p < l.length) (hb : l.getD p 0 = 106) (hn : n < 2000) (hd : d ≤ 60) : RT l p n d = ⟨0, tmNil, p + 1, n + 1⟩ := by
  rw [RT_eq l p n d (by omega), bgn_nil hp hb hn hd]; rfl
/-- So many Nils. -/
theorem rdK_nils {l : List UInt8} {d q : Nat} (hd : d ≤ 60) (hq : ∀ j, q ≤ j → j < l.length → l.getD j 0 = 106) : ∀ (c p n : Nat), q ≤ p → p + c ≤ l.length → n ≤ 2000 → rdK (fun p n => RT l p n d) c p n = if 2000 < n + c then Rk.bad 4 else ⟨0, List.replicate c tmNil, p + c, n + c⟩
  | 0, p, n, _, _, hn => by rw [if_neg (by omega)]; rfl
  | c + 1, p, n, hqp, hp, hn => by
    show consR (RT l p n d) (rdK (fun p n => RT l p n d) c) = _
    by_cases h2 : n = 2000
    · rw [RT_over (by omega) hn (by omega), if_pos (by omega)]; rfl
    · rw [RT_nil (by omega) (hq p hqp (by omega)) (by omega) hd, consR_0 rfl]
      have ih := rdK_nils hd hq c (p + 1) (n + 1) (by omega) (by omega) (by omega)
      simp only
      rw [ih]
      by_cases h3 : 2000 < n + (c + 1)
      · rw [if_pos (show 2000 < n + 1 + c by omega), if_pos h3]; rfl
      · rw [if_neg (show ¬ 2000 < n + 1 + c by omega), if_neg h3, prep_0 rfl]
        simp only [Rk.mk.injEq, true_and]
        exact ⟨rfl, by omega, by omega⟩
/-- A list of k Nils. -/
theorem long_list (l : List UInt8) (k : Nat) (hk : k < 1100) (hl : l.length = k + 6) (hb : l.getD 0 0 = 108) (hc : highL ((l.drop 1).take 4) = k) (hq : ∀ j, 5 ≤ j → j < l.length → l.getD j 0 = 106) : (RT l 0 0 1).e = if k = 0 ∨ 2000 < 2 * k + 1 then 4 else 0 := by
  rw [RT_eq l 0 0 1 (by omega), bgn_list (p := 0) (k := k) (by omega) hb hc (by omega) (by omega)]
  by_cases h0 : k = 0
  · rw [if_pos (by omega), if_pos (by omega)]; rfl
  · rw [if_neg (by omega)]
    unfold opnR
    rw [if_neg (fun h => h rfl), if_neg (show ¬ k + 1 = 0 by omega), if_neg (show ¬ (4 : Int) = 5 by decide)]
    simp only [Nat.add_sub_cancel, Nat.zero_add]
    rw [rdK_nils (q := 5) (by omega) hq k 5 k (by omega) (by omega) (by omega)]
    by_cases h1 : 2000 < k + k
    · rw [if_pos h1, if_pos (by omega)]; rfl
    · rw [if_neg h1]
      unfold endL
      rw [if_neg (fun h => h rfl)]
      simp only
      by_cases h2 : 2000 < 2 * k + 1
      · rw [RT_over (by omega) (by omega) (by omega), if_pos (by omega)]; rfl
      · rw [RT_nil (by omega) (hq _ (by omega) (by omega)) (by omega) (by omega), if_neg (by omega)]
        rfl
/-- Tuples within tuples. -/
theorem deep_tup (l : List UInt8) (d : Nat) (hd : d < 70) (hl : l.length = 2 * d + 1) (ht : ∀ i, i < d → l.getD (2 * i) 0 = 104 ∧ l.getD (2 * i + 1) 0 = 1) (hb : l.getD (2 * d) 0 = 106) : ∀ (m i : Nat), i + m = d → i ≤ 60 → (RT l (2 * i) i (i + 1)).e = if d + 1 ≤ 60 then 0 else 4
  | 0, i, hi, h6 => by
    obtain rfl : i = d := by omega
    by_cases h : i + 1 ≤ 60
    · rw [RT_nil (by omega) hb (by omega) h, if_pos h]
    · rw [RT_over (by omega) (by omega) (by omega), if_neg h]; rfl
  | m + 1, i, hi, h6 => by
    by_cases h : i + 1 ≤ 60
    · obtain ⟨t1, t2⟩ := ht i (by omega)
      rw [RT_eq l _ _ _ (by omega), bgn_tup (by omega) t1 t2 (by omega) h]
      unfold opnR
      rw [if_neg (fun h => h rfl), if_neg (show ¬ (1 : Nat) = 0 by decide), if_pos rfl]
      have ih := deep_tup l d hd hl ht hb m (i + 1) (by omega) h
      rw [← ih]
      show (endT (consR (RT l (2 * i + 2) (i + 1) (i + 1 + 1)) _)).e = (RT l (2 * (i + 1)) (i + 1) (i + 1 + 1)).e
      rw [show 2 * (i + 1) = 2 * i + 2 by omega]
      by_cases hr : (RT l (2 * i + 2) (i + 1) (i + 1 + 1)).e = 0
      · rw [consR_0 hr, prep_0 rfl, hr]; rfl
      · rw [consR_bad hr]
        unfold endT
        rw [if_pos (show (Rk.bad _).e ≠ 0 from hr)]
        rfl
    · rw [RT_over (by omega) (by omega) (by omega), if_neg (by omega)]; rfl
end Go.Proofs.YtbmondbicnfcpaaDoor


/-
  relictlaw04.awake: the document's example.
-/
namespace Go.Proofs.YtbmondbicnfcpaaDoor
open Go.RowKit
set_option linter.unusedVariables false
set_option linter.unusedSimpArgs false

def tA1 : Tm := .mk 1 false [1] ⟨#[]⟩ 0 []
def tA4 : Tm := .mk 4 false [] ⟨#[]⟩ 0 [tA1, tmNil]
theorem tA4_ok : tA4.ok = true := by
  simp only [tA4, tA1, tmNil, Tm.ok, chk_mk, chkL, chkC, chkH]
  decide +kernel
theorem tA4_put : putO tA4 = [108, 0, 0, 0, 1, 97, 1, 106] := by
  unfold putO
  rw [if_pos tA4_ok]
  have h := putT_list tmNil (by decide) [tA1] (by decide)
  have e : listT [tA1] tmNil = tA4 := rfl
  rw [← e, h]
  have h1 : putT tA1 = [97, 1] := by
    rw [putT_1 (show tA1.kind = 1 from rfl)]
    decide +kernel
  have h2 : putT tmNil = [106] := putT_3 rfl
  rw [putK_app, putK_one, putK_one, h1, h2]
  rfl
/-- The example lies in memory. -/
theorem aw4_is (w : World) : ∃ W, W = (((w.alloc (.cells #[.int .u32 1] 59)).alloc (.cells #[.int .i64 1, .bool false, .slice (some ⟨w.heap.size, 0, none⟩) 1 1, .string ⟨#[]⟩, .int .i64 0, .slice none 0 0, .int .i64 3, .bool false, .slice none 0 0, .string ⟨#[]⟩, .int .i64 0, .slice none 0 0] 29)).alloc (.cells #[.int .i64 4, .bool false, .slice none 0 0, .string ⟨#[]⟩, .int .i64 0, .slice (some ⟨w.heap.size + 1, 0, none⟩) 2 2] 29)) ∧ IsT W tA4 (.agg #[.int .i64 4, .bool false, .slice none 0 0, .string ⟨#[]⟩, .int .i64 0, .slice (some ⟨w.heap.size + 1, 0, none⟩) 2 2]) ∧ Bt W (w.heap.size + 1 + 1) 4 false (.slice none 0 0) ⟨#[]⟩ 0 (.slice (some ⟨w.heap.size + 1, 0, none⟩) 2 2) ∧ Below w.heap.size w W := by
  refine ⟨_, rfl, ?_, ?_, ?_⟩
  · have s1 : Sl (w.alloc (.cells #[.int .u32 1] 59)) (.slice (some ⟨w.heap.size, 0, none⟩) 1 1) [1] := sl_lit w 1 (by decide) (by decide)
    have b2 := (Below.refl _ (w.alloc (.cells #[.int .u32 1] 59))).alloc (Nat.le_refl _) (.cells #[.int .i64 1, .bool false, .slice (some ⟨w.heap.size, 0, none⟩) 1 1, .string ⟨#[]⟩, .int .i64 0, .slice none 0 0, .int .i64 3, .bool false, .slice none 0 0, .string ⟨#[]⟩, .int .i64 0, .slice none 0 0] 29)
    have b3 := (Below.refl _ ((w.alloc (.cells #[.int .u32 1] 59)).alloc (.cells #[.int .i64 1, .bool false, .slice (some ⟨w.heap.size, 0, none⟩) 1 1, .string ⟨#[]⟩, .int .i64 0, .slice none 0 0, .int .i64 3, .bool false, .slice none 0 0, .string ⟨#[]⟩, .int .i64 0, .slice none 0 0] 29))).alloc (Nat.le_refl _) (.cells #[.int .i64 4, .bool false, .slice none 0 0, .string ⟨#[]⟩, .int .i64 0, .slice (some ⟨w.heap.size + 1, 0, none⟩) 2 2] 29)
    have c2 := heap_alloc_new (w.alloc (.cells #[.int .u32 1] 59)) (.cells #[.int .i64 1, .bool false, .slice (some ⟨w.heap.size, 0, none⟩) 1 1, .string ⟨#[]⟩, .int .i64 0, .slice none 0 0, .int .i64 3, .bool false, .slice none 0 0, .string ⟨#[]⟩, .int .i64 0, .slice none 0 0] 29)
    rw [World.size_alloc] at c2
    have i1 : IsT ((w.alloc (.cells #[.int .u32 1] 59)).alloc (.cells #[.int .i64 1, .bool false, .slice (some ⟨w.heap.size, 0, none⟩) 1 1, .string ⟨#[]⟩, .int .i64 0, .slice none 0 0, .int .i64 3, .bool false, .slice none 0 0, .string ⟨#[]⟩, .int .i64 0, .slice none 0 0] 29)) tA1 (.agg #[.int .i64 1, .bool false, .slice (some ⟨w.heap.size, 0, none⟩) 1 1, .string ⟨#[]⟩, .int .i64 0, .slice none 0 0]) := IsT.shut (by omega) (by omega) (by decide) (s1.below b2) (Ts.nil _)
    have t2 : Ts ((w.alloc (.cells #[.int .u32 1] 59)).alloc (.cells #[.int .i64 1, .bool false, .slice (some ⟨w.heap.size, 0, none⟩) 1 1, .string ⟨#[]⟩, .int .i64 0, .slice none 0 0, .int .i64 3, .bool false, .slice none 0 0, .string ⟨#[]⟩, .int .i64 0, .slice none 0 0] 29)) (.slice (some ⟨w.heap.size + 1, 0, none⟩) 2 2) [tA1, tmNil] := Ts.lit2 c2 i1 (nil_is _)
    exact IsT.shut (by omega) (by omega) (by decide) (Sl.nil _) (t2.under b3)
  · have := Bt.new ((w.alloc (.cells #[.int .u32 1] 59)).alloc (.cells #[.int .i64 1, .bool false, .slice (some ⟨w.heap.size, 0, none⟩) 1 1, .string ⟨#[]⟩, .int .i64 0, .slice none 0 0, .int .i64 3, .bool false, .slice none 0 0, .string ⟨#[]⟩, .int .i64 0, .slice none 0 0] 29)) 4 false (.slice none 0 0) ⟨#[]⟩ 0 (.slice (some ⟨w.heap.size + 1, 0, none⟩) 2 2) ⟨_, _, _, rfl⟩ ⟨_, _, _, rfl⟩
    rwa [World.size_alloc, World.size_alloc] at this
  · exact (((Below.refl w.heap.size w).alloc (Nat.le_refl _) _).alloc (by simp) _).alloc (by simp; omega) _

set_option maxRecDepth 100000 in
set_option maxHeartbeats 4000000 in
theorem awake4 (w : World) : Calls Tryd.prog 15 #[] w fun e w' => e = .returned (.bool true) ∧ Below w.heap.size w w' := by
  obtain ⟨W, hW, hI, hT, hB⟩ := aw4_is w
  have HWW : Hid (W = (((w.alloc (.cells #[.int .u32 1] 59)).alloc (.cells #[.int .i64 1, .bool false, .slice (some ⟨w.heap.size, 0, none⟩) 1 1, .string ⟨#[]⟩, .int .i64 0, .slice none 0 0, .int .i64 3, .bool false, .slice none 0 0, .string ⟨#[]⟩, .int .i64 0, .slice none 0 0] 29)).alloc (.cells #[.int .i64 4, .bool false, .slice none 0 0, .string ⟨#[]⟩, .int .i64 0, .slice (some ⟨w.heap.size + 1, 0, none⟩) 2 2] 29))) := hW
  clear hW
  have HB : Hid (Below w.heap.size w W) := hB
  clear hB hT
  go_enter Tryd.func15, Tryd.ntmps15
  go_wp2_with fail
  rw [← HWW.out]
  clear HWW
  refine (eput_any _ _ [] tA4 W (By.nil W) (by decide) hI).mono ?_
  rintro e w1 ⟨v1, rfl, hr, -, b1⟩
  rw [tA4_put, List.nil_append] at hr
  have hy := hr.by
  obtain ⟨a1, c1, rfl, -⟩ := hy.shape
  have t1 := hy.text
  have HB1 : Hid (Below w.heap.size w w1) := HB.out.trans (b1.mono HB.out.size)
  simp only [List.length_cons, List.length_nil] at t1
  clear hy b1 hr hI
  go_wp2_with fail
  go_ret
  exact ⟨rfl, HB1.out⟩
end Go.Proofs.YtbmondbicnfcpaaDoor

/-
  relictlaw00.Place.
-/
namespace Go.Proofs.YtbmondbicnfcpaaDoor
open Go.RowKit
set_option linter.unusedVariables false

set_option maxHeartbeats 1000000 in
/-- A number as one from 0 to m - 1. -/
theorem place_any (v m : Int) (w : World) (hm : 0 < m) (hm2 : m ≤ 1073741824) (hv1 : -9223372036854775808 ≤ v) (hv2 : v ≤ 9223372036854775807) :
    Calls Tryd.prog 24 #[.int .i64 v, .int .i64 m] w fun e w' => e = .returned (.int .i64 (v % m)) ∧ w = w' := by
  obtain ⟨t1, t2, t3⟩ := tmod_place v m hm
  have T1 : Hid _ := t1
  have T2 : Hid _ := t2
  clear t1 t2
  by_cases h : v.tmod m < 0
  · go_enter Tryd.func24, Tryd.ntmps24
    go_wp2_with fail
    go_ret
    exact ⟨congrArg Ending.returned (congrArg (Value.int IntKind.i64) (T1.out h)), rfl⟩
  · go_enter Tryd.func24, Tryd.ntmps24
    go_wp2_with fail
    go_ret
    exact ⟨congrArg Ending.returned (congrArg (Value.int IntKind.i64) (T2.out h)), rfl⟩
end Go.Proofs.YtbmondbicnfcpaaDoor
