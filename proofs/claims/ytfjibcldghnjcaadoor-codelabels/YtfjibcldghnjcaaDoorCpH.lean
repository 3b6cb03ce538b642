/-
  compact: sizeBehind, numberOf.
-/
import Derived.Test.YtfjibcldghnjcaaDoorCpBox
namespace Go.Proofs.YtfjibcldghnjcaaDoor
open Go.RowKit
set_option linter.unusedVariables false
set_option linter.unusedSimpArgs false

theorem and_all : ∀ n : Fin 256, bits .and .u8 (n.val : Int) 7 = ((n.val % 8 : Nat) : Int) ∧ bits .and .u8 (n.val : Int) 8 = ((n.val / 8 % 2 * 8 : Nat) : Int) ∧ bits .and .u8 (n.val : Int) 16 = ((n.val / 16 % 2 * 16 : Nat) : Int) := by decide +kernel
theorem and_u8 (n : Nat) (h : n < 256) : bits .and .u8 (n : Int) 7 = ((n % 8 : Nat) : Int) ∧ bits .and .u8 (n : Int) 8 = ((n / 8 % 2 * 8 : Nat) : Int) ∧ bits .and .u8 (n : Int) 16 = ((n / 16 % 2 * 16 : Nat) : Int) := and_all ⟨n, h⟩

set_option maxRecDepth 100000 in
set_option maxHeartbeats 2000000 in
theorem sizeBehind_any (f : Nat) (hf : f < 256) (w : World) :
    Calls Tryd.prog 46 #[.int .u8 (f : Int)] w fun e w' => e = .returned (.tuple #[.int .i64 (szF f).1, .bool (szF f).2]) ∧ w' = w := by
  obtain ⟨a7, a8, a16⟩ := and_u8 f hf
  obtain ⟨r, hr⟩ : ∃ r, szF f = r := ⟨_, rfl⟩
  have HR : Hid (szF f = r) := hr
  rw [hr]; clear hr
  obtain ⟨tg, htg⟩ : ∃ t : Int, t = ((f % 8 : Nat) : Int) := ⟨_, rfl⟩
  rw [← htg] at a7
  have ht0 : 0 ≤ tg := by omega
  have ht8 : tg < 8 := by omega
  have hx0 : 0 ≤ (f : Int) := by omega
  have hx1 : (f : Int) < 256 := by omega
  by_cases c1 : (5 : Int) < tg
  · have HE : Hid (r = (0, false)) := by unfold Hid; rw [← HR.out]; unfold szF; rw [if_pos (by omega)]
    clear htg HR
    go_enter Tryd.func46, Tryd.ntmps46
    go_wp2_with fail
    go_ret2
    exact ⟨by rw [HE.out]; rfl, rfl⟩
  by_cases c2 : f / 8 % 2 = 0
  · have HE : Hid (r = (0, true)) := by unfold Hid; rw [← HR.out]; unfold szF; rw [if_neg (by omega), if_pos c2]
    rw [c2] at a8
    clear htg HR c2
    go_enter Tryd.func46, Tryd.ntmps46
    go_wp2_with fail
    go_ret2
    exact ⟨by rw [HE.out]; rfl, rfl⟩
  have c2' : f / 8 % 2 = 1 := by omega
  rw [c2'] at a8
  by_cases c3 : f / 16 % 2 = 0
  · have HE : Hid (r = (1, decide (f % 8 ≠ 1))) := by unfold Hid; rw [← HR.out]; unfold szF; rw [if_neg (by omega), if_neg c2, if_pos c3]
    rw [c3] at a16
    have HT : Hid (tg = ((f % 8 : Nat) : Int)) := htg
    clear htg HR c2 c2' c3
    by_cases c4 : tg = 1
    · subst c4
      go_enter Tryd.func46, Tryd.ntmps46
      go_wp2_with fail
      go_ret2
      exact ⟨by rw [HE.out]; have := HT.out; rw [show decide (f % 8 ≠ 1) = false by simp; omega]; rfl, rfl⟩
    · have c4b : (tg != 1) = true := by simp [c4]
      go_enter Tryd.func46, Tryd.ntmps46
      go_wp2_with fail
      go_ret2
      exact ⟨by rw [HE.out]; have := HT.out; rw [show decide (f % 8 ≠ 1) = true by simp; omega]; rfl, rfl⟩
  · have c3' : f / 16 % 2 = 1 := by omega
    rw [c3'] at a16
    have HE : Hid (r = (((f / 32 + 2 : Nat) : Int), decide (f / 32 + 2 ≤ if f % 8 = 1 then 8 else 4))) := by unfold Hid; rw [← HR.out]; unfold szF; rw [if_neg (by omega), if_neg c2, if_neg c3]
    have HT : Hid (tg = ((f % 8 : Nat) : Int)) := htg
    clear htg HR c2 c2' c3 c3'
    by_cases c4 : tg = 1
    · subst c4
      by_cases c5 : (f : Int) / 32 + 2 ≤ 8
      all_goals
        go_enter Tryd.func46, Tryd.ntmps46
        go_wp2_with fail
        go_ret2
        refine ⟨?_, rfl⟩
        rw [HE.out]
        have := HT.out
        simp [show f % 8 = 1 by omega]
        first | done | omega | (constructor <;> omega)
    · by_cases c5 : (f : Int) / 32 + 2 ≤ 4
      all_goals
        go_enter Tryd.func46, Tryd.ntmps46
        go_wp2_with fail
        go_ret2
        refine ⟨?_, rfl⟩
        rw [HE.out]
        have := HT.out
        simp [show f % 8 ≠ 1 by omega]
        first | done | omega | (constructor <;> omega)

theorem or_joinI (m x : Int) (h0 : -36028797018963968 ≤ m) (h1 : m < 36028797018963968) (h2 : 0 ≤ x) (h3 : x < 256) : bits .or .i64 (m * 256) x = m * 256 + x := by
  show IntKind.i64.wrap ((BitVec.ofInt 64 (m * 256) ||| BitVec.ofInt 64 x).toNat : Int) = _
  rw [BitVec.toNat_or, BitVec.toNat_ofInt, BitVec.toNat_ofInt, IntKind.wrap_i64]
  rw [nat_join 8 _ _ (by omega) (by omega)]
  omega
theorem acc_bd : ∀ (r : List UInt8) (a lo hi : Int), lo ≤ a → a ≤ hi → lo * 256 ^ r.length ≤ accN a r ∧ accN a r < (hi + 1) * 256 ^ r.length
  | [], a, lo, hi, h1, h2 => by simp [accN]; omega
  | x :: r, a, lo, hi, h1, h2 => by
    have hx := x.toNat_lt
    have h := acc_bd r (a * 256 + (x.toNat : Int)) (lo * 256) ((hi + 1) * 256 - 1) (by omega) (by omega)
    have e : accN a (x :: r) = accN (a * 256 + (x.toNat : Int)) r := rfl
    rw [e, List.length_cons, Int.pow_succ]
    rw [show (hi + 1) * 256 - 1 + 1 = (hi + 1) * 256 by omega] at h
    refine ⟨?_, ?_⟩
    · rw [Int.mul_comm (256 ^ r.length) 256, ← Int.mul_assoc]; exact h.1
    · rw [Int.mul_comm (256 ^ r.length) 256, ← Int.mul_assoc]; exact h.2
theorem pow256 {k : Nat} (h : k ≤ 6) : (256 : Int) ^ k ≤ 281474976710656 ∧ (0 : Int) < 256 ^ k := by
  have : k = 0 ∨ k = 1 ∨ k = 2 ∨ k = 3 ∨ k = 4 ∨ k = 5 ∨ k = 6 := by omega
  rcases this with rfl | rfl | rfl | rfl | rfl | rfl | rfl <;> decide
/-- The bytes that a first one is followed by. -/
def Fol (f : Nat) (r : List UInt8) : Prop := (szF f).2 = true ∧ (szF f).1 = (r.length : Int)
theorem Fol.cases {f : Nat} {r : List UInt8} (h : Fol f r) (hf : f < 256) : (f / 8 % 2 = 0 ∧ r = []) ∨ (f / 8 % 2 = 1 ∧ f / 16 % 2 = 0 ∧ f % 8 ≠ 1 ∧ r.length = 1) ∨ (f / 8 % 2 = 1 ∧ f / 16 % 2 = 1 ∧ f % 8 = 1 ∧ 2 ≤ r.length ∧ r.length ≤ 8) ∨ (f / 8 % 2 = 1 ∧ f / 16 % 2 = 1 ∧ f % 8 ≠ 1 ∧ 2 ≤ r.length ∧ r.length ≤ 4) := by
  obtain ⟨h1, h2⟩ := h
  unfold szF at h1 h2
  by_cases c1 : 5 < f % 8
  · rw [if_pos c1] at h1; cases h1
  rw [if_neg c1] at h1 h2
  by_cases c2 : f / 8 % 2 = 0
  · rw [if_pos c2] at h1 h2
    exact .inl ⟨c2, List.eq_nil_of_length_eq_zero (by simp at h2; omega)⟩
  rw [if_neg c2] at h1 h2
  by_cases c3 : f / 16 % 2 = 0
  · rw [if_pos c3] at h1 h2
    simp at h1 h2
    exact .inr (.inl ⟨by omega, c3, h1, by omega⟩)
  rw [if_neg c3] at h1 h2
  by_cases c4 : f % 8 = 1
  · simp [c4] at h1 h2
    exact .inr (.inr (.inl ⟨by omega, by omega, c4, by omega, by omega⟩))
  · simp [c4] at h1 h2
    exact .inr (.inr (.inr ⟨by omega, by omega, c4, by omega, by omega⟩))
theorem beg_bd {f : Nat} {r : List UInt8} (h : Fol f r) (hf : f < 256) (k : Nat) (hk : k < r.length) : -36028797018963968 ≤ accN (begN f r) (r.take k) ∧ accN (begN f r) (r.take k) < 36028797018963968 := by
  have hl : (r.take k).length = k := by simp; omega
  rcases h.cases hf with ⟨c, rfl⟩ | ⟨c2, c3, c4, c5⟩ | ⟨c2, c3, c4, c5, c6⟩ | ⟨c2, c3, c4, c5, c6⟩
  · simp at hk
  · obtain rfl : k = 0 := by omega
    unfold begN
    rw [if_neg (by omega), if_pos c3]
    simp [accN]
    omega
  · cases k with
    | zero => simp [accN, begN, c2, c3, c4]; split <;> omega
    | succ k =>
      match r, hk with
      | x :: r', hk =>
        have hx := x.toNat_lt
        have hl2 : (r'.take k).length = k := by simp at hk ⊢; omega
        have e : accN (begN f (x :: r')) ((x :: r').take (k + 1)) = accN (begN f (x :: r') * 256 + (x.toNat : Int)) (r'.take k) := rfl
        have hb : -128 ≤ begN f (x :: r') * 256 + (x.toNat : Int) ∧ begN f (x :: r') * 256 + (x.toNat : Int) ≤ 127 := by
          unfold begN
          rw [if_neg (by omega), if_neg (by omega)]
          simp only [List.getD_cons_zero, c4, true_and]
          split <;> omega
        have := acc_bd (r'.take k) _ _ _ hb.1 hb.2
        rw [hl2] at this
        have hp := pow256 (k := k) (by simp at hk c6; omega)
        rw [e]
        omega
  · have hb : begN f r = 0 := by unfold begN; rw [if_neg (by omega), if_neg (by omega), if_neg (by omega)]
    have := acc_bd (r.take k) (begN f r) 0 0 (by omega) (by omega)
    rw [hl] at this
    have hp := pow256 (k := k) (by omega)
    omega

/-- What is held while the bytes are gone through. -/
def NbRel (w : World) (t n : Int) (wr : World) : Prop := BxA wr w.heap.size 0 0 (.slice none 0 0) ∧ BxA wr (w.heap.size + 1) t n (.slice none 0 0) ∧ Below w.heap.size w wr
theorem nb_start (w : World) (t n : Int) : NbRel w t n ((w.alloc (.cells #[.int .i64 0, .int .i64 0, .slice none 0 0] 30)).alloc (.cells #[.int .i64 t, .int .i64 n, .slice none 0 0] 30)) := by
  refine ⟨(BxA.new w 0 0 _).under ((Below.refl _ _).alloc (Nat.le_refl _) _), ?_, ((Below.refl _ _).alloc (Nat.le_refl _) _).alloc (by simp) _⟩
  have := BxA.new (w.alloc (.cells #[.int .i64 0, .int .i64 0, .slice none 0 0] 30)) t n (.slice none 0 0)
  rwa [show (w.alloc (.cells #[.int .i64 0, .int .i64 0, .slice none 0 0] 30)).heap.size = w.heap.size + 1 by simp] at this

set_option maxRecDepth 100000 in
set_option maxHeartbeats 2000000 in
theorem numberOf_any (f : Nat) (hf : f < 256) (v : Value) (r : List UInt8) (w : World) (hv : By w v r) (hF : Fol f r) :
    Calls Tryd.prog 47 #[.int .u8 (f : Int), v] w fun e w' => e = .returned (agV ((f % 8 : Nat) : Int) (valN f r) (.slice none 0 0)) ∧ Below w.heap.size w w' := by
  obtain ⟨a7, a8, a16⟩ := and_u8 f hf
  obtain ⟨a, cap, rfl, hc, hm, hn⟩ := hv.shape
  have hx0 : 0 ≤ (f : Int) := by omega
  have hx1 : (f : Int) < 256 := by omega
  obtain ⟨tg, htg⟩ : ∃ t : Int, t = ((f % 8 : Nat) : Int) := ⟨_, rfl⟩
  rw [← htg] at a7 ⊢
  have ht0 : 0 ≤ tg := by omega
  have ht8 : tg < 8 := by omega
  have hnl := hn
  obtain ⟨V, hV⟩ : ∃ V, V = valN f r := ⟨_, rfl⟩
  have HV : Hid (V = accN (begN f r) (r.take r.length)) := by unfold Hid; rw [List.take_length, hV]; rfl
  have HV0 : Hid (accN (begN f r) (r.take 0) = begN f r) := rfl
  rw [← hV]
  clear hV
  obtain ⟨B0, hB0⟩ : ∃ B0, B0 = begN f r := ⟨_, rfl⟩
  have HBD : Hid (∀ k, k < r.length → -36028797018963968 ≤ accN B0 (r.take k) ∧ accN B0 (r.take k) < 36028797018963968) := by unfold Hid; rw [hB0]; exact fun k hk => beg_bd hF hf k hk
  have HST : Hid (∀ k (hk : k < r.length), accN B0 (r.take (k + 1)) = accN B0 (r.take k) * 256 + ((r.getD k 0).toNat : Int)) := by
    intro k hk
    rw [List.take_succ_eq_append_getElem hk, acc_snoc]
    simp [List.getD, hk]
  rw [← hB0] at HV HV0
  have hcs : (f / 8 % 2 = 0 ∧ B0 = (f : Int) / 16) ∨ (f / 8 % 2 = 1 ∧ f / 16 % 2 = 0 ∧ B0 = (f : Int) / 32) ∨ (f / 8 % 2 = 1 ∧ f / 16 % 2 = 1 ∧ ¬ tg = 1 ∧ B0 = 0) ∨ (f / 8 % 2 = 1 ∧ f / 16 % 2 = 1 ∧ tg = 1 ∧ 0 < r.length ∧ ((128 ≤ (r.getD 0 0).toNat ∧ B0 = -1) ∨ ((r.getD 0 0).toNat < 128 ∧ B0 = 0))) := by
    rw [hB0]
    unfold begN
    rcases hF.cases hf with ⟨c, rfl⟩ | ⟨c2, c3, c4, c5⟩ | ⟨c2, c3, c4, c5, c6⟩ | ⟨c2, c3, c4, c5, c6⟩
    · exact .inl ⟨c, by rw [if_pos c]; omega⟩
    · exact .inr (.inl ⟨c2, c3, by rw [if_neg (by omega), if_pos c3]; omega⟩)
    · refine .inr (.inr (.inr ⟨c2, c3, by omega, by omega, ?_⟩))
      rw [if_neg (by omega), if_neg (by omega)]
      by_cases h : 128 ≤ (r.getD 0 0).toNat
      · exact .inl ⟨h, by rw [if_pos ⟨c4, h⟩]⟩
      · exact .inr ⟨by omega, by rw [if_neg (by omega)]⟩
    · exact .inr (.inr (.inl ⟨c2, c3, by omega, by rw [if_neg (by omega), if_neg (by omega), if_neg (by omega)]⟩))
  clear hB0 hF hf htg
  have HCS : Hid (∀ (b : Nat) (off : Nat), True) := fun _ _ => trivial
  have hcs2 : (bits BinOp.and IntKind.u8 (f : Int) 8 = 0 ∧ B0 = (f : Int) / 16) ∨ (bits BinOp.and IntKind.u8 (f : Int) 8 = 8 ∧ bits BinOp.and IntKind.u8 (f : Int) 16 = 0 ∧ B0 = (f : Int) / 32) ∨ (bits BinOp.and IntKind.u8 (f : Int) 8 = 8 ∧ bits BinOp.and IntKind.u8 (f : Int) 16 = 16 ∧ ¬ tg = 1 ∧ B0 = 0) ∨ (bits BinOp.and IntKind.u8 (f : Int) 8 = 8 ∧ bits BinOp.and IntKind.u8 (f : Int) 16 = 16 ∧ tg = 1 ∧ 0 < r.length ∧ ((128 ≤ (r.getD 0 0).toNat ∧ B0 = -1) ∨ ((r.getD 0 0).toNat < 128 ∧ B0 = 0))) := by
    rw [a8, a16]
    omega
  clear hcs a8 a16
  have HVB : Hid (By w (.slice a r.length cap) r) := hv
  clear hv
  rcases hcs2 with ⟨a8, eb⟩ | ⟨a8, a16, eb⟩ | ⟨a8, a16, c4, eb⟩ | ⟨a8, a16, c4, hr0, hcb⟩
  · go_enter Tryd.func47, Tryd.ntmps47
    go_wp2_with fail
    go_loopg [42] r.length (fun gk s42 wr => ∃ k : Nat, k + gk = r.length ∧ s42 = .int .i64 (k : Int) ∧ Hid (NbRel w tg (accN B0 (r.take k)) wr))
    case atStart => exact ⟨0, by omega, rfl, by rw [HV0.out, eb]; exact nb_start w tg _⟩
    case round =>
      clear eb
      obtain ⟨k, hk, rfl, HN⟩ := hrel
      obtain ⟨x0, x1, xb⟩ := HN.out
      obtain ⟨d0, d1, d2, e0, e1, e2⟩ := x0.facts
      obtain ⟨p0, p1, p2, q0, q1, q2⟩ := x1.facts
      cases gk with
      | zero =>
        obtain rfl : k = r.length := by omega
        have HF : Hid (BxA (setBxA wr w.heap.size tg (accN B0 (r.take r.length)) (.slice none 0 0)) w.heap.size tg (accN B0 (r.take r.length)) (.slice none 0 0)) := x0.set _ _ _
        have HFB : Hid (Below w.heap.size w (setBxA wr w.heap.size tg (accN B0 (r.take r.length)) (.slice none 0 0))) := Below.setA xb (Nat.le_refl _) _ _ _
        unfold setBxA at HF HFB
        rw [← HV.out] at HF HFB p1
        clear HN x0 x1 xb HV HV0 HBD HST
        go_wp2_with fail
        refine bodyPost_ret (results_a1 rfl _ _ w.heap.size tg V (.slice none 0 0) rfl HF.out) rfl ?_
        exact ⟨rfl, HFB.out⟩
      | succ g =>
        obtain ⟨b', off', he, hlt', hcell⟩ := (HVB.out.under xb).at k (by omega)
        have hc1 := hcell k (by omega)
        clear hcell
        subst he
        have hkl : (k : Int) < (r.length : Int) := by omega
        have hbx := ubd r k
        have hbd := HBD.out k (by omega)
        have hst := HST.out k (by omega)
        obtain ⟨y, hyd⟩ : ∃ y : Int, y = ((r.getD k 0).toNat : Int) := ⟨_, rfl⟩
        rw [← hyd] at hc1 hbx hst
        obtain ⟨M, hM⟩ : ∃ M, M = accN B0 (r.take k) := ⟨_, rfl⟩
        rw [← hM] at hbd hst p1 x1
        obtain ⟨hb0, hb1⟩ := hbd
        obtain ⟨z, hz⟩ : ∃ z, z = M * 256 + y := ⟨_, rfl⟩
        have ho : bits BinOp.or IntKind.i64 (M * 256) y = z := by rw [hz]; exact or_joinI _ _ hb0 hb1 hbx.1 (by omega)
        have HG : Hid (NbRel w tg (accN B0 (r.take (k + 1))) (wr.setCell ⟨w.heap.size + 1, 1, none⟩ (.int .i64 z))) := by
          rw [hst, ← hz]
          exact ⟨x0.other (by omega), x1.set1 z, xb.setCell (by simp) _⟩
        have hz0 : -9223372036854775808 ≤ z := by omega
        have hz1 : z ≤ 9223372036854775807 := by omega
        have hlt1 := x1.lt
        clear hz hst hM hyd HN x0 x1 xb HV HV0 HBD HST d0 d1 d2 e0 e1 e2
        go_wp2_with fail
        go_roundg g
        case measure => omega
        case rel => exact ⟨k + 1, by omega, by go_num, HG⟩
  · go_enter Tryd.func47, Tryd.ntmps47
    go_wp2_with fail
    go_loopg [42] r.length (fun gk s42 wr => ∃ k : Nat, k + gk = r.length ∧ s42 = .int .i64 (k : Int) ∧ Hid (NbRel w tg (accN B0 (r.take k)) wr))
    case atStart => exact ⟨0, by omega, rfl, by rw [HV0.out, eb]; exact nb_start w tg _⟩
    case round =>
      clear eb
      obtain ⟨k, hk, rfl, HN⟩ := hrel
      obtain ⟨x0, x1, xb⟩ := HN.out
      obtain ⟨d0, d1, d2, e0, e1, e2⟩ := x0.facts
      obtain ⟨p0, p1, p2, q0, q1, q2⟩ := x1.facts
      cases gk with
      | zero =>
        obtain rfl : k = r.length := by omega
        have HF : Hid (BxA (setBxA wr w.heap.size tg (accN B0 (r.take r.length)) (.slice none 0 0)) w.heap.size tg (accN B0 (r.take r.length)) (.slice none 0 0)) := x0.set _ _ _
        have HFB : Hid (Below w.heap.size w (setBxA wr w.heap.size tg (accN B0 (r.take r.length)) (.slice none 0 0))) := Below.setA xb (Nat.le_refl _) _ _ _
        unfold setBxA at HF HFB
        rw [← HV.out] at HF HFB p1
        clear HN x0 x1 xb HV HV0 HBD HST
        go_wp2_with fail
        refine bodyPost_ret (results_a1 rfl _ _ w.heap.size tg V (.slice none 0 0) rfl HF.out) rfl ?_
        exact ⟨rfl, HFB.out⟩
      | succ g =>
        obtain ⟨b', off', he, hlt', hcell⟩ := (HVB.out.under xb).at k (by omega)
        have hc1 := hcell k (by omega)
        clear hcell
        subst he
        have hkl : (k : Int) < (r.length : Int) := by omega
        have hbx := ubd r k
        have hbd := HBD.out k (by omega)
        have hst := HST.out k (by omega)
        obtain ⟨y, hyd⟩ : ∃ y : Int, y = ((r.getD k 0).toNat : Int) := ⟨_, rfl⟩
        rw [← hyd] at hc1 hbx hst
        obtain ⟨M, hM⟩ : ∃ M, M = accN B0 (r.take k) := ⟨_, rfl⟩
        rw [← hM] at hbd hst p1 x1
        obtain ⟨hb0, hb1⟩ := hbd
        obtain ⟨z, hz⟩ : ∃ z, z = M * 256 + y := ⟨_, rfl⟩
        have ho : bits BinOp.or IntKind.i64 (M * 256) y = z := by rw [hz]; exact or_joinI _ _ hb0 hb1 hbx.1 (by omega)
        have HG : Hid (NbRel w tg (accN B0 (r.take (k + 1))) (wr.setCell ⟨w.heap.size + 1, 1, none⟩ (.int .i64 z))) := by
          rw [hst, ← hz]
          exact ⟨x0.other (by omega), x1.set1 z, xb.setCell (by simp) _⟩
        have hz0 : -9223372036854775808 ≤ z := by omega
        have hz1 : z ≤ 9223372036854775807 := by omega
        have hlt1 := x1.lt
        clear hz hst hM hyd HN x0 x1 xb HV HV0 HBD HST d0 d1 d2 e0 e1 e2
        go_wp2_with fail
        go_roundg g
        case measure => omega
        case rel => exact ⟨k + 1, by omega, by go_num, HG⟩
  · go_enter Tryd.func47, Tryd.ntmps47
    go_wp2_with fail
    go_loopg [42] r.length (fun gk s42 wr => ∃ k : Nat, k + gk = r.length ∧ s42 = .int .i64 (k : Int) ∧ Hid (NbRel w tg (accN B0 (r.take k)) wr))
    case atStart => exact ⟨0, by omega, rfl, by rw [HV0.out, eb]; exact nb_start w tg _⟩
    case round =>
      clear eb
      obtain ⟨k, hk, rfl, HN⟩ := hrel
      obtain ⟨x0, x1, xb⟩ := HN.out
      obtain ⟨d0, d1, d2, e0, e1, e2⟩ := x0.facts
      obtain ⟨p0, p1, p2, q0, q1, q2⟩ := x1.facts
      cases gk with
      | zero =>
        obtain rfl : k = r.length := by omega
        have HF : Hid (BxA (setBxA wr w.heap.size tg (accN B0 (r.take r.length)) (.slice none 0 0)) w.heap.size tg (accN B0 (r.take r.length)) (.slice none 0 0)) := x0.set _ _ _
        have HFB : Hid (Below w.heap.size w (setBxA wr w.heap.size tg (accN B0 (r.take r.length)) (.slice none 0 0))) := Below.setA xb (Nat.le_refl _) _ _ _
        unfold setBxA at HF HFB
        rw [← HV.out] at HF HFB p1
        clear HN x0 x1 xb HV HV0 HBD HST
        go_wp2_with fail
        refine bodyPost_ret (results_a1 rfl _ _ w.heap.size tg V (.slice none 0 0) rfl HF.out) rfl ?_
        exact ⟨rfl, HFB.out⟩
      | succ g =>
        obtain ⟨b', off', he, hlt', hcell⟩ := (HVB.out.under xb).at k (by omega)
        have hc1 := hcell k (by omega)
        clear hcell
        subst he
        have hkl : (k : Int) < (r.length : Int) := by omega
        have hbx := ubd r k
        have hbd := HBD.out k (by omega)
        have hst := HST.out k (by omega)
        obtain ⟨y, hyd⟩ : ∃ y : Int, y = ((r.getD k 0).toNat : Int) := ⟨_, rfl⟩
        rw [← hyd] at hc1 hbx hst
        obtain ⟨M, hM⟩ : ∃ M, M = accN B0 (r.take k) := ⟨_, rfl⟩
        rw [← hM] at hbd hst p1 x1
        obtain ⟨hb0, hb1⟩ := hbd
        obtain ⟨z, hz⟩ : ∃ z, z = M * 256 + y := ⟨_, rfl⟩
        have ho : bits BinOp.or IntKind.i64 (M * 256) y = z := by rw [hz]; exact or_joinI _ _ hb0 hb1 hbx.1 (by omega)
        have HG : Hid (NbRel w tg (accN B0 (r.take (k + 1))) (wr.setCell ⟨w.heap.size + 1, 1, none⟩ (.int .i64 z))) := by
          rw [hst, ← hz]
          exact ⟨x0.other (by omega), x1.set1 z, xb.setCell (by simp) _⟩
        have hz0 : -9223372036854775808 ≤ z := by omega
        have hz1 : z ≤ 9223372036854775807 := by omega
        have hlt1 := x1.lt
        clear hz hst hM hyd HN x0 x1 xb HV HV0 HBD HST d0 d1 d2 e0 e1 e2
        go_wp2_with fail
        go_roundg g
        case measure => omega
        case rel => exact ⟨k + 1, by omega, by go_num, HG⟩
  · obtain ⟨b, off, rfl, hlt, hcell⟩ := HVB.out.at 0 hr0
    have hc1 := hcell 0 hr0
    simp only [Nat.add_zero] at hc1
    clear hcell
    obtain ⟨x, hxd⟩ : ∃ x : Int, x = ((r.getD 0 0).toNat : Int) := ⟨_, rfl⟩
    have hxb := ubd r 0
    rw [← hxd] at hc1 hxb
    have hri : (0 : Int) < (r.length : Int) := by omega
    subst c4
    rcases hcb with ⟨hx, eb⟩ | ⟨hx, eb⟩
    · have hx2 : x / 128 = 1 := by omega
      clear hxd
      go_enter Tryd.func47, Tryd.ntmps47
      go_wp2_with fail
      go_loopg [42] r.length (fun gk s42 wr => ∃ k : Nat, k + gk = r.length ∧ s42 = .int .i64 (k : Int) ∧ Hid (NbRel w 1 (accN B0 (r.take k)) wr))
      case atStart => exact ⟨0, by omega, rfl, by rw [HV0.out, eb]; exact nb_start w 1 _⟩
      case round =>
        clear eb
        obtain ⟨k, hk, rfl, HN⟩ := hrel
        obtain ⟨x0, x1, xb⟩ := HN.out
        obtain ⟨d0, d1, d2, e0, e1, e2⟩ := x0.facts
        obtain ⟨p0, p1, p2, q0, q1, q2⟩ := x1.facts
        cases gk with
        | zero =>
          obtain rfl : k = r.length := by omega
          have HF : Hid (BxA (setBxA wr w.heap.size 1 (accN B0 (r.take r.length)) (.slice none 0 0)) w.heap.size 1 (accN B0 (r.take r.length)) (.slice none 0 0)) := x0.set _ _ _
          have HFB : Hid (Below w.heap.size w (setBxA wr w.heap.size 1 (accN B0 (r.take r.length)) (.slice none 0 0))) := Below.setA xb (Nat.le_refl _) _ _ _
          unfold setBxA at HF HFB
          rw [← HV.out] at HF HFB p1
          clear HN x0 x1 xb HV HV0 HBD HST
          go_wp2_with fail
          refine bodyPost_ret (results_a1 rfl _ _ w.heap.size 1 V (.slice none 0 0) rfl HF.out) rfl ?_
          exact ⟨rfl, HFB.out⟩
        | succ g =>
          obtain ⟨b', off', he, hlt', hcell⟩ := (HVB.out.under xb).at k (by omega)
          have hc1 := hcell k (by omega)
          clear hcell
          simp only [Option.some.injEq, Addr.mk.injEq, and_true] at he
          obtain ⟨rfl, rfl⟩ := he
          have hkl : (k : Int) < (r.length : Int) := by omega
          have hbx := ubd r k
          have hbd := HBD.out k (by omega)
          have hst := HST.out k (by omega)
          obtain ⟨y, hyd⟩ : ∃ y : Int, y = ((r.getD k 0).toNat : Int) := ⟨_, rfl⟩
          rw [← hyd] at hc1 hbx hst
          obtain ⟨M, hM⟩ : ∃ M, M = accN B0 (r.take k) := ⟨_, rfl⟩
          rw [← hM] at hbd hst p1 x1
          obtain ⟨hb0, hb1⟩ := hbd
          obtain ⟨z, hz⟩ : ∃ z, z = M * 256 + y := ⟨_, rfl⟩
          have ho : bits BinOp.or IntKind.i64 (M * 256) y = z := by rw [hz]; exact or_joinI _ _ hb0 hb1 hbx.1 (by omega)
          have HG : Hid (NbRel w 1 (accN B0 (r.take (k + 1))) (wr.setCell ⟨w.heap.size + 1, 1, none⟩ (.int .i64 z))) := by
            rw [hst, ← hz]
            exact ⟨x0.other (by omega), x1.set1 z, xb.setCell (by simp) _⟩
          have hz0 : -9223372036854775808 ≤ z := by omega
          have hz1 : z ≤ 9223372036854775807 := by omega
          have hlt1 := x1.lt
          clear hz hst hM hyd HN x0 x1 xb HV HV0 HBD HST d0 d1 d2 e0 e1 e2
          go_wp2_with fail
          go_roundg g
          case measure => omega
          case rel => exact ⟨k + 1, by omega, by go_num, HG⟩
    · have hx2 : x / 128 = 0 := by omega
      clear hxd
      go_enter Tryd.func47, Tryd.ntmps47
      go_wp2_with fail
      go_loopg [42] r.length (fun gk s42 wr => ∃ k : Nat, k + gk = r.length ∧ s42 = .int .i64 (k : Int) ∧ Hid (NbRel w 1 (accN B0 (r.take k)) wr))
      case atStart => exact ⟨0, by omega, rfl, by rw [HV0.out, eb]; exact nb_start w 1 _⟩
      case round =>
        clear eb
        obtain ⟨k, hk, rfl, HN⟩ := hrel
        obtain ⟨x0, x1, xb⟩ := HN.out
        obtain ⟨d0, d1, d2, e0, e1, e2⟩ := x0.facts
        obtain ⟨p0, p1, p2, q0, q1, q2⟩ := x1.facts
        cases gk with
        | zero =>
          obtain rfl : k = r.length := by omega
          have HF : Hid (BxA (setBxA wr w.heap.size 1 (accN B0 (r.take r.length)) (.slice none 0 0)) w.heap.size 1 (accN B0 (r.take r.length)) (.slice none 0 0)) := x0.set _ _ _
          have HFB : Hid (Below w.heap.size w (setBxA wr w.heap.size 1 (accN B0 (r.take r.length)) (.slice none 0 0))) := Below.setA xb (Nat.le_refl _) _ _ _
          unfold setBxA at HF HFB
          rw [← HV.out] at HF HFB p1
          clear HN x0 x1 xb HV HV0 HBD HST
          go_wp2_with fail
          refine bodyPost_ret (results_a1 rfl _ _ w.heap.size 1 V (.slice none 0 0) rfl HF.out) rfl ?_
          exact ⟨rfl, HFB.out⟩
        | succ g =>
          obtain ⟨b', off', he, hlt', hcell⟩ := (HVB.out.under xb).at k (by omega)
          have hc1 := hcell k (by omega)
          clear hcell
          simp only [Option.some.injEq, Addr.mk.injEq, and_true] at he
          obtain ⟨rfl, rfl⟩ := he
          have hkl : (k : Int) < (r.length : Int) := by omega
          have hbx := ubd r k
          have hbd := HBD.out k (by omega)
          have hst := HST.out k (by omega)
          obtain ⟨y, hyd⟩ : ∃ y : Int, y = ((r.getD k 0).toNat : Int) := ⟨_, rfl⟩
          rw [← hyd] at hc1 hbx hst
          obtain ⟨M, hM⟩ : ∃ M, M = accN B0 (r.take k) := ⟨_, rfl⟩
          rw [← hM] at hbd hst p1 x1
          obtain ⟨hb0, hb1⟩ := hbd
          obtain ⟨z, hz⟩ : ∃ z, z = M * 256 + y := ⟨_, rfl⟩
          have ho : bits BinOp.or IntKind.i64 (M * 256) y = z := by rw [hz]; exact or_joinI _ _ hb0 hb1 hbx.1 (by omega)
          have HG : Hid (NbRel w 1 (accN B0 (r.take (k + 1))) (wr.setCell ⟨w.heap.size + 1, 1, none⟩ (.int .i64 z))) := by
            rw [hst, ← hz]
            exact ⟨x0.other (by omega), x1.set1 z, xb.setCell (by simp) _⟩
          have hz0 : -9223372036854775808 ≤ z := by omega
          have hz1 : z ≤ 9223372036854775807 := by omega
          have hlt1 := x1.lt
          clear hz hst hM hyd HN x0 x1 xb HV HV0 HBD HST d0 d1 d2 e0 e1 e2
          go_wp2_with fail
          go_roundg g
          case measure => omega
          case rel => exact ⟨k + 1, by omega, by go_num, HG⟩
end Go.Proofs.YtfjibcldghnjcaaDoor
