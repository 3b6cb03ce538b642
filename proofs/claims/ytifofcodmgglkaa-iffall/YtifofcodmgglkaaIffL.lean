/-
  relictlaw05: few, same, awake; relictlaw00.Bytes, relictlaw00.Place.
-/
import Derived.Test.YtifofcodmgglkaaIffR
import Derived.Test.YtifofcodmgglkaaIffMathB
namespace Go.Proofs.Ytifofcodmgglkaa
open Go.RowKit Go.Maps
set_option linter.unusedVariables false
set_option linter.unusedSimpArgs false

theorem tmod_place (v m : Int) (hm : 0 < m) : (v.tmod m < 0 → v.tmod m + m = v % m) ∧ (¬ v.tmod m < 0 → v.tmod m = v % m) ∧ -m < v.tmod m := by
  have h1 := Int.emod_nonneg v (show m ≠ 0 by omega)
  have h2 := Int.emod_lt_of_pos v hm
  have h3 := Int.tmod_eq_emod (a := v) (b := m)
  by_cases hc : 0 ≤ v ∨ m ∣ v
  · rw [if_pos hc] at h3
    omega
  · rw [if_neg hc] at h3
    have h5 : v % m ≠ 0 := fun e => hc (.inr (Int.dvd_of_emod_eq_zero e))
    omega

set_option maxHeartbeats 1000000 in
/-- A number as one from 0 to m - 1. -/
theorem place_any (v m : Int) (w : World) (hm : 0 < m) (hm2 : m ≤ 1073741824) (hv1 : -9223372036854775808 ≤ v) (hv2 : v ≤ 9223372036854775807) :
    Calls Try.prog 18 #[.int .i64 v, .int .i64 m] w fun e w' => e = .returned (.int .i64 (v % m)) ∧ w = w' := by
  obtain ⟨t1, t2, t3⟩ := tmod_place v m hm
  have T1 : Hid _ := t1
  have T2 : Hid _ := t2
  clear t1 t2
  by_cases h : v.tmod m < 0
  · go_enter Try.func18, Try.ntmps18
    go_wp2_with fail
    go_ret
    exact ⟨congrArg Ending.returned (congrArg (Value.int IntKind.i64) (T1.out h)), rfl⟩
  · go_enter Try.func18, Try.ntmps18
    go_wp2_with fail
    go_ret
    exact ⟨congrArg Ending.returned (congrArg (Value.int IntKind.i64) (T2.out h)), rfl⟩

def FewPost (w : World) (l : List Ck) (e : Ending) (w' : World) : Prop := ∃ q, e = .returned (.bool q) ∧ (q = true → l.length ≤ 12 ∧ ∀ c ∈ l, (c.2.size : Int) ≤ 3000) ∧ w = w'

set_option maxHeartbeats 1000000 in
theorem few_any (v : Value) (l : List Ck) (w : World) (h : Ch w v l) : Calls Try.prog 8 #[v] w fun e w' => FewPost w l e w' := by
  obtain ⟨a, cap, rfl, hc, hm, hn⟩ := h.shape
  go_enter Try.func8, Try.ntmps8
  go_wp2_with fail
  go_loopg [3] l.length (fun gk s3 wr => ∃ k : Nat, k + gk = l.length ∧ s3 = .int .i64 (k : Int) ∧ wr = w ∧ Hid (∀ i (h : i < l.length), i < k → (l[i].2.size : Int) ≤ 3000))
  case atStart => exact ⟨0, by omega, rfl, rfl, fun i h hi => by omega⟩
  case round =>
    obtain ⟨k, hk, rfl, rfl, HI⟩ := hrel
    cases gk with
    | zero =>
      obtain rfl : k = l.length := by omega
      go_wp2_with fail
      go_ret
      exact ⟨_, rfl, fun h => (by simp at h; exact ⟨by omega, fun c hc => by obtain ⟨i, hi, rfl⟩ := List.getElem_of_mem hc; exact HI.out i hi hi⟩), rfl⟩
    | succ g =>
      have hkl : k < l.length := by omega
      obtain ⟨b, off, rfl, hlt, hc1, hc2, hs1, hs2⟩ := h.at k hkl
      have HJ : Hid (¬ ((3000 : Int) < (l[k].2.size : Int)) → ∀ i (h : i < l.length), i < k + 1 → (l[i].2.size : Int) ≤ 3000) := fun h3 i hi hik => by
        rcases Nat.lt_or_ge i k with h | h
        · exact HI.out i hi h
        · obtain rfl : i = k := by omega
          omega
      obtain ⟨c, hcd⟩ : ∃ c, c = l[k] := ⟨_, rfl⟩
      rw [← hcd] at hc1 hc2 hs1 hs2 HJ
      clear hcd
      have hki : (k : Int) < (l.length : Int) := by omega
      by_cases h12 : (k : Int) < 12
      · by_cases t1 : (3000 : Int) < (c.2.size : Int)
        · go_wp2_with fail
          go_ret
          exact ⟨_, rfl, fun h => (by cases h), rfl⟩
        · by_cases t2 : (20 : Int) < (c.1.size : Int)
          · go_wp2_with fail
            go_ret
            exact ⟨_, rfl, fun h => (by cases h), rfl⟩
          · go_wp2_with fail
            go_roundg g
            case measure => omega
            case rel => exact ⟨k + 1, by omega, by go_num, rfl, HJ.out t1⟩
      · go_wp2_with fail
        go_ret
        exact ⟨_, rfl, fun h => (by simp at h; omega), rfl⟩

set_option maxHeartbeats 1000000 in
theorem same_any (va vb : Value) (l : List Ck) (w : World) (ha : Ch w va l) (hb : Ch w vb l) : Calls Try.prog 17 #[va, vb] w fun e w' => e = .returned (.bool true) ∧ Below w.heap.size w w' := by
  obtain ⟨a, cap, rfl, hc, hm, hn⟩ := ha.shape
  obtain ⟨a2, cap2, rfl, hc2, hm2, hn2⟩ := hb.shape
  go_enter Try.func17, Try.ntmps17
  go_wp2_with fail
  go_loopg [5] l.length (fun gk s5 wr => ∃ k : Nat, k + gk = l.length ∧ s5 = .int .i64 (k : Int) ∧ Hid (Below w.heap.size w wr))
  case atStart => exact ⟨0, by omega, rfl, Below.refl _ _⟩
  case round =>
    obtain ⟨k, hk, rfl, HB⟩ := hrel
    cases gk with
    | zero =>
      obtain rfl : k = l.length := by omega
      go_wp2_with fail
      go_ret
      exact ⟨rfl, HB.out⟩
    | succ g =>
      have hkl : k < l.length := by omega
      obtain ⟨b, off, rfl, hlt, p1, p2, -, -⟩ := (ha.under HB.out).at k hkl
      obtain ⟨b2, off2, rfl, hlt2, q1, q2, -, -⟩ := (hb.under HB.out).at k hkl
      obtain ⟨c, hcd⟩ : ∃ c, c = l[k] := ⟨_, rfl⟩
      rw [← hcd] at p1 p2 q1 q2
      clear hcd
      have hki : (k : Int) < (l.length : Int) := by omega
      have e1 : (c.1.toList != c.1.toList) = false := by simp
      have e2 : (c.2.toList != c.2.toList) = false := by simp
      go_wp2_with fail
      go_quiet (fail)
      go_wp2_with fail
      go_roundg g
      case measure => omega
      case rel => exact ⟨k + 1, by omega, by go_num, below_drewN HB.out _⟩
def ByPost (w : World) (l : List UInt8) (e : Ending) (w' : World) : Prop := ∃ v, e = .returned v ∧ OB w' w.heap.size v l ∧ Below w.heap.size w w'

set_option maxHeartbeats 1000000 in
theorem bytes_any (va : Value) (l : List UInt8) (w : World) (ha : By w va l) (hla : l.length ≤ 1000000) :
    Calls Try.prog 11 #[va] w fun e w' => ByPost w l e w' := by
  obtain ⟨i, hi, hz0, hz1, hz2⟩ := info_parts Try.infoU8
  obtain ⟨pa, ca, rfl, hc, hm, hn⟩ := ha.shape
  have hown : w.ownsRow w.heap.size 5 1 (.slice none 0 0) 0 [] := World.ownsRow_nil _ _ _ _
  rcases pa with _ | x
  · have h0 := hn rfl
    have h1 : l.length = 0 := by omega
    obtain rfl : l = [] := List.eq_nil_of_length_eq_zero h1
    subst h0
    go_enter Try.func11, Try.ntmps11
    go_wp2_with (first | (at_builtin; refine wpList_append_own_none rfl _ _ 22 rfl w.heap.size 5 i 1 Try.underlying22 hi (.slice none 0 0) 0 [] rfl hown rfl ?_) | fail)
    go_ret
    exact ⟨_, rfl, World.ownsRow_nil _ _ _ _, Below.refl _ _⟩
  · have hnews : ∀ j u, (bv l)[j]? = some u → w.cell? (x.add j) = some u := by
      intro j u hu
      by_cases hj : j < l.length
      · obtain ⟨b, off, he, -, hc⟩ := ha.at j hj
        injection he with he
        subst he
        rw [show (⟨b, off, none⟩ : Addr).add j = ⟨b, off + j, none⟩ by unfold Addr.add; split <;> simp_all, hc j hj]
        simp [bv, hj] at hu
        simp [List.getD, hj, hu]
      · rw [List.getElem?_eq_none (by simp [bv]; omega)] at hu
        cases hu
    go_enter Try.func11, Try.ntmps11
    go_wp2_with (first | (at_builtin; refine wpList_append_own _ rfl _ _ 22 rfl w.heap.size 5 i (.int .u8 0) 1 1 Try.underlying22 hi hz0 hz1 hz2 rfl (by decide) (.slice none 0 0) 0 [] rfl hown x l.length ca (bv l) rfl (by simp [bv]) hnews (bv_one _) (by simp only [maxLen]; omega) (by omega) (Nat.le_refl _) ?_; intro v' w1 hown1 hgr1 _; simp only [Nat.zero_add, List.nil_append] at hown1) | fail)
    go_ret
    exact ⟨_, rfl, hown1, (Below.refl _ _).grown hgr1 (Nat.le_refl _) (fun k hk => by simp [Value.ownBlock] at hk)⟩

def ckT : Ck := (⟨#[84, 101, 115, 116]⟩, ⟨#[120]⟩)
theorem mak_nil : (makS []).1.length = 12 ∧ (makS []).2 = 0 := by decide +kernel
theorem mak_T : (makS [ckT]).1.length = 24 ∧ (makS [ckT]).2 = 0 := by decide +kernel

set_option maxHeartbeats 2000000 in
theorem awake_any (w : World) : Calls Try.prog 9 #[] w fun e w' => e = .returned (.bool true) ∧ Below w.heap.size w w' := by
  go_enter Try.func9, Try.ntmps9
  go_wp2_with fail
  refine (make_any _ [] _ (Ch.nil w) (by simp)).mono ?_
  rintro e w1 ⟨v1, rfl, o1, b1⟩
  rw [mak_nil.2]
  obtain ⟨a1, c1, rfl, -⟩ := o1.by.shape
  rw [mak_nil.1]
  have hal := (Below.refl w1.heap.size w1).alloc (Nat.le_refl _) (.cells #[.string ckT.1, .string ckT.2] 39)
  have hT : Ch (w1.alloc (.cells #[.string ckT.1, .string ckT.2] 39)) (.slice (some ⟨w1.heap.size, 0, none⟩) 1 1) [ckT] := by
    have hO : OC (w1.alloc (.cells #[.string ckT.1, .string ckT.2] 39)) 0 (.slice (some ⟨w1.heap.size, 0, none⟩) 1 1) [ckT] :=
      ⟨rfl, .inr ⟨w1.heap.size, 1, _, rfl, by omega, heap_alloc_new w1 _, by simp, by decide, rfl, rfl⟩⟩
    exact hO.ch (fun c hc => by simp at hc; subst hc; exact ⟨by decide, by decide⟩)
  have HB1 : Hid (Below w.heap.size w (w1.alloc (.cells #[.string ckT.1, .string ckT.2] 39))) := b1.trans (hal.mono b1.size)
  clear o1 b1 hal
  go_wp2_with fail
  refine (make_any _ [ckT] _ hT (by simp)).mono ?_
  rintro e w2 ⟨v2, rfl, o2, b2⟩
  have hy := o2.by
  obtain ⟨a2, c2, rfl, -⟩ := hy.shape
  have HB2 : Hid (Below w.heap.size w w2) := HB1.out.trans (b2.mono HB1.out.size)
  have hp := par_mak mak_T.2
  rw [mak_T.2]
  rw [mak_T.1] at hy ⊢
  clear o2 b2 HB1 hT
  go_wp2_with fail
  refine (parse_any _ _ _ hy).mono ?_
  rw [hp]
  rintro e w3 ⟨v3, rfl, o3, k3, b3⟩
  have hc3 := o3.ch k3
  obtain ⟨a3, c3, rfl, -⟩ := hc3.shape
  obtain ⟨b, off, rfl, -, -, p2, -⟩ := hc3.at 0 (by simp)
  have HB3 : Hid (Below w.heap.size w w3) := HB2.out.trans (b3.mono HB2.out.size)
  have p3 : w3.cell? ⟨b, off + 1, none⟩ = some (.string ⟨#[120]⟩) := by simpa [ckT] using p2
  clear o3 k3 b3 hc3 p2 HB2
  go_wp2_with fail
  go_ret
  exact ⟨rfl, HB3.out⟩
end Go.Proofs.Ytifofcodmgglkaa
