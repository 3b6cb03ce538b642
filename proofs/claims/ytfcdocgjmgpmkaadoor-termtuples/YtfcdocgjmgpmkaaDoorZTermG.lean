import Derived.Test.YtfcdocgjmgpmkaaDoorZTermA
import Derived.Test.YtfcdocgjmgpmkaaDoorZNumA
import Derived.Lib.Bytealg

/-
  term.parts: what a term is made of, where that plays a part.
-/
namespace Go.Proofs.YtfcdocgjmgpmkaaDoor
open Go.RowKit
set_option linter.unusedVariables false
set_option linter.unusedSimpArgs false

def Tm.parts (t : Tm) : List Tm := if t.kind = 4 ∨ t.kind = 5 ∨ t.kind = 7 then t.kids else []

/-- A slice of terms comes back. -/
def TsPost (w : World) (K : List Tm) (e : Ending) (w' : World) : Prop := ∃ s, e = .returned s ∧ Ts w' s K ∧ Below w.heap.size w w'

set_option maxRecDepth 100000 in
set_option maxHeartbeats 4000000 in
theorem parts_any (t : Tm) (v : Value) (w : World) (h : IsT w t v) : Calls Tryd.prog 26 #[v] w fun e w' => TsPost w t.parts e w' := by
  obtain ⟨sl, sk, rfl, hl, hk, hki, -, hS⟩ := h.open
  obtain ⟨pl, cl, rfl⟩ := hl.shape
  have HT : Hid (Ts w sk t.kids) := hk
  obtain ⟨pk, ck, rfl, -⟩ := hk.shape
  simp only [tmV] at *
  have HB1 : Hid (Below w.heap.size w (w.alloc (.cells #[.int .i64 t.kind, .bool t.neg, .slice pl t.limbs.length cl, .string t.str, .int .i64 t.num, .slice pk t.kids.length ck] 27))) := (Below.refl w.heap.size w).alloc (Nat.le_refl _) _
  obtain ⟨q, hq⟩ : ∃ q, t.parts = q := ⟨_, rfl⟩
  have HKD : Hid (∀ k, t.kind = k → q = if k = 4 ∨ k = 5 ∨ k = 7 then t.kids else []) := fun k e => by rw [← hq, Tm.parts, e]
  rw [hq]
  clear hq hk hl h
  obtain ⟨kk, hkk⟩ : ∃ kk, t.kind = kk := ⟨_, rfl⟩
  have HK2 : Hid (q = if kk = 4 ∨ kk = 5 ∨ kk = 7 then t.kids else []) := HKD.out kk hkk
  rw [hkk] at hki HB1 ⊢
  clear hkk HKD
  by_cases k4 : kk = 4
  · subst k4
    have HQ : Hid (q = t.kids) := by show q = _; rw [HK2.out, if_pos (by simp)]
    clear HK2
    go_enter Tryd.func26, Tryd.ntmps26
    go_wp2_with fail
    go_ret
    exact ⟨_, rfl, by rw [HQ.out]; exact HT.out.under HB1.out, HB1.out⟩
  · by_cases k5 : kk = 5
    · subst k5
      have HQ : Hid (q = t.kids) := by show q = _; rw [HK2.out, if_pos (by simp)]
      clear HK2
      go_enter Tryd.func26, Tryd.ntmps26
      go_wp2_with fail
      go_ret
      exact ⟨_, rfl, by rw [HQ.out]; exact HT.out.under HB1.out, HB1.out⟩
    · by_cases k7 : kk = 7
      · subst k7
        have HQ : Hid (q = t.kids) := by show q = _; rw [HK2.out, if_pos (by simp)]
        clear HK2
        go_enter Tryd.func26, Tryd.ntmps26
        go_wp2_with fail
        go_ret
        exact ⟨_, rfl, by rw [HQ.out]; exact HT.out.under HB1.out, HB1.out⟩
      · have HQ : Hid (q = []) := by show q = _; rw [HK2.out, if_neg (by rintro (h | h | h) <;> contradiction)]
        clear HK2
        go_enter Tryd.func26, Tryd.ntmps26
        go_wp2_with fail
        go_ret
        exact ⟨_, rfl, by rw [HQ.out]; exact Ts.nil _, HB1.out⟩

end Go.Proofs.YtfcdocgjmgpmkaaDoor


/-
  slices.Equal at []uint32: whether two slices read as one list.
-/
namespace Go.Proofs.YtfcdocgjmgpmkaaDoor
open Go.RowKit
set_option linter.unusedVariables false
set_option linter.unusedSimpArgs false

set_option maxRecDepth 100000 in
set_option maxHeartbeats 4000000 in
theorem equal_any (va vb : Value) (A C : List Int) (w : World) (ha : Sl w va A) (hb : Sl w vb C) :
    Calls Tryd.prog 60 #[va, vb] w fun e w' => e = .returned (.bool (decide (A = C))) ∧ Below w.heap.size w w' := by
  obtain ⟨ok1, p1, m1, c1, rfl, hl1, hc1, hm1, hnn1, hp1⟩ := ha
  obtain ⟨ok2, p2, m2, c2, rfl, hl2, hc2, hm2, hnn2, hp2⟩ := hb
  obtain ⟨r, hr⟩ : ∃ r, decide (A = C) = r := ⟨_, rfl⟩
  have HR : Hid (decide (A = C) = r) := hr
  rw [hr]; clear hr
  by_cases hne : m1 = m2
  · subst hne
    have hb : ((m1 : Int) != (m1 : Int)) = false := by simp
    go_enter Tryd.func60, Tryd.ntmps60
    go_wp2_with fail
    go_loopg [13] m1 (fun gk s13 wr => ∃ i : Nat, i + gk = m1 ∧ s13 = .int .i64 (i : Int) ∧ Hid (∀ j, j < i → A.getD j 0 = C.getD j 0) ∧ Below w.heap.size w wr)
    case atStart => exact ⟨0, by omega, rfl, fun j h => absurd h (by omega), Below.refl _ _⟩
    case round =>
      obtain ⟨i, hi, rfl, HZ, hbel⟩ := hrel
      cases gk with
      | zero =>
        obtain rfl : i = m1 := by omega
        have hid : ¬ (i : Int) < (i : Int) := by omega
        have HQ : Hid (r = true) := by
          show r = true
          rw [← HR.out]
          apply decide_eq_true
          apply List.ext_getElem (by omega)
          intro j h1 h2
          have := HZ.out j (by omega)
          simpa [List.getD, h1, h2] using this
        clear HR HZ
        go_wp2_with fail
        go_ret
        exact ⟨by rw [HQ.out]; rfl, hbel⟩
      | succ q =>
        obtain ⟨b1, off1, rfl, hb1, hcell1⟩ := hp1 (by omega)
        obtain ⟨b2, off2, rfl, hb2, hcell2⟩ := hp2 (by omega)
        obtain ⟨x, hx⟩ : ∃ x, A.getD i 0 = x := ⟨_, rfl⟩
        obtain ⟨y, hy⟩ : ∃ y, C.getD i 0 = y := ⟨_, rfl⟩
        have d1 : wr.cell? ⟨b1, off1 + i, none⟩ = some (.int .u32 x) := by rw [← hx]; exact (hbel.cell (p := ⟨b1, off1 + i, none⟩) hb1).trans (hcell1 i (by omega))
        have d2 : wr.cell? ⟨b2, off2 + i, none⟩ = some (.int .u32 y) := by rw [← hy]; exact (hbel.cell (p := ⟨b2, off2 + i, none⟩) hb2).trans (hcell2 i (by omega))
        have hq : (i : Int) < (m1 : Int) := by omega
        have hq0 : (0 : Int) ≤ (i : Int) := by omega
        have HX : Hid (A.getD i 0 = x) := hx
        have HY : Hid (C.getD i 0 = y) := hy
        clear hx hy hcell1 hcell2 hp1 hp2
        by_cases e : x = y
        · have hd : (x != y) = false := by simp [e]
          go_wp2_with fail
          go_quiet (fail)
          go_wp2_with fail
          go_roundg q
          case measure => omega
          case rel =>
            refine ⟨i + 1, by omega, by go_num, fun j hj => ?_, below_drewN hbel _⟩
            by_cases e2 : j = i
            · subst e2; rw [HX.out, HY.out, e]
            · exact HZ.out j (by omega)
        · have hd : (x != y) = true := by simp [e]
          have HQ : Hid (r = false) := by
            show r = false
            rw [← HR.out]
            apply decide_eq_false
            intro h
            rw [h] at HX
            exact e (HX.out.symm.trans HY.out)
          clear HR HZ HX HY
          go_wp2_with fail
          go_quiet (fail)
          go_wp2_with fail
          go_ret
          exact ⟨by rw [HQ.out]; rfl, below_drewN hbel _⟩
  · have hb : ((m1 : Int) != (m2 : Int)) = true := by simp; omega
    have HQ : Hid (r = false) := by
      show r = false
      rw [← HR.out]
      apply decide_eq_false
      intro h
      exact hne (by rw [← hl1, ← hl2, h])
    clear HR
    go_enter Tryd.func60, Tryd.ntmps60
    go_wp2_with fail
    go_ret
    exact ⟨by rw [HQ.out]; rfl, Below.refl _ _⟩
end Go.Proofs.YtfcdocgjmgpmkaaDoor


/-
  strings.Compare.
-/
namespace Go.Proofs.YtfcdocgjmgpmkaaDoor
open Go.RowKit
set_option linter.unusedVariables false
set_option linter.unusedSimpArgs false

set_option maxRecDepth 100000 in
set_option maxHeartbeats 1000000 in
theorem cmpStr0 (a b : ByteArray) (w : World) : Calls Tryd.prog 59 #[.string a, .string b] w fun e w' => e = .returned (.int .i64 (Lib.compareBytes a.data.toList b.data.toList)) ∧ w' = w := by
  go_enter Tryd.func59, Tryd.ntmps59
  go_wp2
  rw [run_callFunc_extern Tryd.func71 (by kernel_rfl) (by kernel_rfl) (by kernel_rfl) (e := Extern.BytealgCompare.compare) (by kernel_rfl), Lib.run_compareString]
  simp only [Result.andThen]
  rw [Oper.upon_value]
  go_wp2
  go_ret
  exact ⟨rfl, rfl⟩

set_option maxRecDepth 100000 in
theorem cmpStr_any (a b : ByteArray) (w : World) : Calls Tryd.prog 44 #[.string a, .string b] w fun e w' => e = .returned (.int .i64 (Lib.compareBytes a.data.toList b.data.toList)) ∧ w' = w := by
  go_enter Tryd.func44, Tryd.ntmps44
  go_wp2_with fail
  refine (cmpStr0 a b _).mono ?_
  rintro e w' ⟨rfl, rfl⟩
  go_wp2_with fail
  go_ret
  exact ⟨rfl, rfl⟩
end Go.Proofs.YtfcdocgjmgpmkaaDoor
