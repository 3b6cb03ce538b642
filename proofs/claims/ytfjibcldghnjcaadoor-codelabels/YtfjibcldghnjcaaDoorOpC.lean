
/-
  ops: mayBe, isConstant, hasTag, fits of letters of one operand, areSources.
-/
import Derived.Test.YtfjibcldghnjcaaDoorOpB
namespace Go.Proofs.YtfjibcldghnjcaaDoor
open Go.RowKit
set_option linter.unusedVariables false
set_option linter.unusedSimpArgs false

def loT (t : Int) : Int := if t = 1 then -576460752303423488 else 0
def hiT (t : Int) : Int := if t = 1 then 576460752303423487 else if t = 3 then 15 else if t = 4 then 11 else 268435455
/-- Whether an operand's number may be, if it is no list. -/
def mbA (a : Ag) : Bool := decide (loT a.t ≤ a.n) && decide (a.n ≤ hiT a.t) && decide (a.kids.length = 0)
def coA (a : Ag) : Bool := decide (a.t = 1 ∨ a.t = 2)
/-- Whether it is of a letter's tag. -/
def htB (c t n : Int) : Bool :=
  if c = 117 then decide (t = 0) else if c = 97 then decide (t = 2) && decide (n ≠ 0) else if c = 115 then decide (t = 1 ∨ t = 2 ∨ t = 6 ∨ t = 3 ∨ t = 4)
  else if c = 100 then decide (t = 3 ∨ t = 4) else if c = 120 then decide (t = 3) else if c = 121 then decide (t = 4) else if c = 108 then decide (t = 5) && decide (n ≠ 0) else if c = 102 then decide (t = 5) else false
/-- Whether one operand is by a letter of one. -/
def fit1 (c : Int) (a : Ag) : Bool := if a.t = 7 then false else mbA a && htB c a.t a.n
def RBool (r : Bool) (w : World) (e : Ending) (w' : World) : Prop := e = .returned (.bool r) ∧ Below w.heap.size w w'
theorem box_below (w : World) (c : Array Value) (t : TypeId) : Below w.heap.size w (w.alloc (.cells c t)) := (Below.refl _ _).alloc (Nat.le_refl _) _

set_option maxRecDepth 100000 in
set_option maxHeartbeats 2000000 in
theorem mb_raw (t n : Int) (p : Option Addr) (m cap : Nat) (w : World) : Calls Tryd.prog 35 #[.agg #[.int .i64 t, .int .i64 n, .slice p m cap]] w (RBool (decide (loT t ≤ n) && decide (n ≤ hiT t) && decide (m = 0)) w) := by
  have HB : Hid (Below w.heap.size w (w.alloc (.cells #[.int .i64 t, .int .i64 n, .slice p m cap] 30))) := box_below _ _ _
  by_cases t1 : t = 1
  · subst t1
    rw [show loT 1 = (-576460752303423488 : Int) from rfl, show hiT 1 = (576460752303423487 : Int) from rfl]
    by_cases h1 : (-576460752303423488 : Int) ≤ n
    · by_cases h2 : n ≤ (576460752303423487 : Int)
      · by_cases h3 : m = 0
        · subst h3
          have hd : (decide ((-576460752303423488 : Int) ≤ n) && decide (n ≤ (576460752303423487 : Int)) && decide ((0 : Nat) = 0)) = true := by simp [h1, h2]
          rw [hd]; clear hd
          go_enter Tryd.func35, Tryd.ntmps35
          go_wp2_with fail
          go_ret
          exact ⟨rfl, HB.out⟩
        · have hd : (decide ((-576460752303423488 : Int) ≤ n) && decide (n ≤ (576460752303423487 : Int)) && decide (m = 0)) = false := by simp [h3]
          rw [hd]; clear hd
          have h4 : ((m : Int) == 0) = false := by simpa using h3
          go_enter Tryd.func35, Tryd.ntmps35
          go_wp2_with fail
          go_ret
          exact ⟨rfl, HB.out⟩
      · have hd : (decide ((-576460752303423488 : Int) ≤ n) && decide (n ≤ (576460752303423487 : Int)) && decide (m = 0)) = false := by simp [h2]
        rw [hd]; clear hd
        go_enter Tryd.func35, Tryd.ntmps35
        go_wp2_with fail
        go_ret
        exact ⟨rfl, HB.out⟩
    · have hd : (decide ((-576460752303423488 : Int) ≤ n) && decide (n ≤ (576460752303423487 : Int)) && decide (m = 0)) = false := by simp [h1]
      rw [hd]; clear hd
      go_enter Tryd.func35, Tryd.ntmps35
      go_wp2_with fail
      go_ret
      exact ⟨rfl, HB.out⟩
  have t1' : (t == 1) = false := by simpa using t1
  rw [show loT t = 0 by unfold loT; rw [if_neg t1]]
  by_cases t3 : t = 3
  · subst t3
    rw [show hiT 3 = (15 : Int) from rfl]
    by_cases h1 : (0 : Int) ≤ n
    · by_cases h2 : n ≤ (15 : Int)
      · by_cases h3 : m = 0
        · subst h3
          have hd : (decide ((0 : Int) ≤ n) && decide (n ≤ (15 : Int)) && decide ((0 : Nat) = 0)) = true := by simp [h1, h2]
          rw [hd]; clear hd
          go_enter Tryd.func35, Tryd.ntmps35
          go_wp2_with fail
          go_ret
          exact ⟨rfl, HB.out⟩
        · have hd : (decide ((0 : Int) ≤ n) && decide (n ≤ (15 : Int)) && decide (m = 0)) = false := by simp [h3]
          rw [hd]; clear hd
          have h4 : ((m : Int) == 0) = false := by simpa using h3
          go_enter Tryd.func35, Tryd.ntmps35
          go_wp2_with fail
          go_ret
          exact ⟨rfl, HB.out⟩
      · have hd : (decide ((0 : Int) ≤ n) && decide (n ≤ (15 : Int)) && decide (m = 0)) = false := by simp [h2]
        rw [hd]; clear hd
        go_enter Tryd.func35, Tryd.ntmps35
        go_wp2_with fail
        go_ret
        exact ⟨rfl, HB.out⟩
    · have hd : (decide ((0 : Int) ≤ n) && decide (n ≤ (15 : Int)) && decide (m = 0)) = false := by simp [h1]
      rw [hd]; clear hd
      go_enter Tryd.func35, Tryd.ntmps35
      go_wp2_with fail
      go_ret
      exact ⟨rfl, HB.out⟩
  have t3' : (t == 3) = false := by simpa using t3
  by_cases t4 : t = 4
  · subst t4
    rw [show hiT 4 = (11 : Int) from rfl]
    by_cases h1 : (0 : Int) ≤ n
    · by_cases h2 : n ≤ (11 : Int)
      · by_cases h3 : m = 0
        · subst h3
          have hd : (decide ((0 : Int) ≤ n) && decide (n ≤ (11 : Int)) && decide ((0 : Nat) = 0)) = true := by simp [h1, h2]
          rw [hd]; clear hd
          go_enter Tryd.func35, Tryd.ntmps35
          go_wp2_with fail
          go_ret
          exact ⟨rfl, HB.out⟩
        · have hd : (decide ((0 : Int) ≤ n) && decide (n ≤ (11 : Int)) && decide (m = 0)) = false := by simp [h3]
          rw [hd]; clear hd
          have h4 : ((m : Int) == 0) = false := by simpa using h3
          go_enter Tryd.func35, Tryd.ntmps35
          go_wp2_with fail
          go_ret
          exact ⟨rfl, HB.out⟩
      · have hd : (decide ((0 : Int) ≤ n) && decide (n ≤ (11 : Int)) && decide (m = 0)) = false := by simp [h2]
        rw [hd]; clear hd
        go_enter Tryd.func35, Tryd.ntmps35
        go_wp2_with fail
        go_ret
        exact ⟨rfl, HB.out⟩
    · have hd : (decide ((0 : Int) ≤ n) && decide (n ≤ (11 : Int)) && decide (m = 0)) = false := by simp [h1]
      rw [hd]; clear hd
      go_enter Tryd.func35, Tryd.ntmps35
      go_wp2_with fail
      go_ret
      exact ⟨rfl, HB.out⟩
  have t4' : (t == 4) = false := by simpa using t4
  rw [show hiT t = 268435455 by unfold hiT; rw [if_neg t1, if_neg t3, if_neg t4]]
  by_cases h1 : (0 : Int) ≤ n
  · by_cases h2 : n ≤ (268435455 : Int)
    · by_cases h3 : m = 0
      · subst h3
        have hd : (decide ((0 : Int) ≤ n) && decide (n ≤ (268435455 : Int)) && decide ((0 : Nat) = 0)) = true := by simp [h1, h2]
        rw [hd]; clear hd
        go_enter Tryd.func35, Tryd.ntmps35
        go_wp2_with fail
        go_ret
        exact ⟨rfl, HB.out⟩
      · have hd : (decide ((0 : Int) ≤ n) && decide (n ≤ (268435455 : Int)) && decide (m = 0)) = false := by simp [h3]
        rw [hd]; clear hd
        have h4 : ((m : Int) == 0) = false := by simpa using h3
        go_enter Tryd.func35, Tryd.ntmps35
        go_wp2_with fail
        go_ret
        exact ⟨rfl, HB.out⟩
    · have hd : (decide ((0 : Int) ≤ n) && decide (n ≤ (268435455 : Int)) && decide (m = 0)) = false := by simp [h2]
      rw [hd]; clear hd
      go_enter Tryd.func35, Tryd.ntmps35
      go_wp2_with fail
      go_ret
      exact ⟨rfl, HB.out⟩
  · have hd : (decide ((0 : Int) ≤ n) && decide (n ≤ (268435455 : Int)) && decide (m = 0)) = false := by simp [h1]
    rw [hd]; clear hd
    go_enter Tryd.func35, Tryd.ntmps35
    go_wp2_with fail
    go_ret
    exact ⟨rfl, HB.out⟩
theorem mb_any (a : Ag) (v : Value) (w : World) (h : IsG w a v) : Calls Tryd.prog 35 #[v] w (RBool (mbA a) w) := by
  obtain ⟨p, cap, rfl, hf, hg⟩ := h.open
  exact mb_raw a.t a.n p a.kids.length cap w

set_option maxRecDepth 100000 in
set_option maxHeartbeats 2000000 in
theorem co_raw (t n : Int) (p : Option Addr) (m cap : Nat) (w : World) : Calls Tryd.prog 42 #[.agg #[.int .i64 t, .int .i64 n, .slice p m cap]] w (RBool (decide (t = 1 ∨ t = 2)) w) := by
  have HB : Hid (Below w.heap.size w (w.alloc (.cells #[.int .i64 t, .int .i64 n, .slice p m cap] 30))) := box_below _ _ _
  by_cases t1 : t = 1
  · subst t1
    go_enter Tryd.func42, Tryd.ntmps42
    go_wp2_with fail
    go_ret
    exact ⟨rfl, HB.out⟩
  have t1' : (t == 1) = false := by simpa using t1
  by_cases t2 : t = 2
  · subst t2
    go_enter Tryd.func42, Tryd.ntmps42
    go_wp2_with fail
    go_ret
    exact ⟨rfl, HB.out⟩
  have t2' : (t == 2) = false := by simpa using t2
  rw [show decide (t = 1 ∨ t = 2) = false by simp [t1, t2]]
  go_enter Tryd.func42, Tryd.ntmps42
  go_wp2_with fail
  go_ret
  exact ⟨rfl, HB.out⟩

set_option maxRecDepth 100000 in
set_option maxHeartbeats 2000000 in
theorem ht_raw (c t n : Int) (p : Option Addr) (m cap : Nat) (w : World) (hc0 : 0 ≤ c) (hc1 : c ≤ 255) : Calls Tryd.prog 36 #[.int .u8 c, .agg #[.int .i64 t, .int .i64 n, .slice p m cap]] w (RBool (htB c t n) w) := by
  have HB : Hid (Below w.heap.size w (w.alloc (.cells #[.int .i64 t, .int .i64 n, .slice p m cap] 30))) := box_below _ _ _
  have HX : Hid (BxA (w.alloc (.cells #[.int .i64 t, .int .i64 n, .slice p m cap] 30)) w.heap.size t n (.slice p m cap)) := BxA.new w t n _
  by_cases c117 : c = 117
  · subst c117
    by_cases t0 : t = 0
    · subst t0
      rw [show htB 117 0 n = true by simp [htB]]
      go_enter Tryd.func36, Tryd.ntmps36
      repeat (first | (with_reducible (first | apply then_exit | apply inb_eq | apply then_normal | apply then_ret | apply inb_ret | apply inb_normal | (refine inb_ne (by decide) ?_))) | go_values | go_skip | go_guarded | go_step | go_upon | go_back | (simp only [Int.not_lt, Int.not_le] at *; go_simp) | (go_values <;> (try go_simp)))
      go_ret
      exact ⟨rfl, HB.out⟩
    have t0' : (t == 0) = false := by simpa using t0
    rw [show htB 117 t n = false by simp [htB, t0]]
    go_enter Tryd.func36, Tryd.ntmps36
    repeat (first | (with_reducible (first | apply then_exit | apply inb_eq | apply then_normal | apply then_ret | apply inb_ret | apply inb_normal | (refine inb_ne (by decide) ?_))) | go_values | go_skip | go_guarded | go_step | go_upon | go_back | (simp only [Int.not_lt, Int.not_le] at *; go_simp) | (go_values <;> (try go_simp)))
    go_ret
    exact ⟨rfl, HB.out⟩
  by_cases c97 : c = 97
  · subst c97
    by_cases t2 : t = 2
    · subst t2
      by_cases n0 : n = 0
      · subst n0
        rw [show htB 97 2 0 = false by simp [htB]]
        go_enter Tryd.func36, Tryd.ntmps36
        repeat (first | (with_reducible (first | apply then_exit | apply inb_eq | apply then_normal | apply then_ret | apply inb_ret | apply inb_normal | (refine inb_ne (by decide) ?_))) | go_values | go_skip | go_guarded | go_step | go_upon | go_back | (simp only [Int.not_lt, Int.not_le] at *; go_simp) | (go_values <;> (try go_simp)))
        go_ret
        exact ⟨rfl, HB.out⟩
      · rw [show htB 97 2 n = true by simp [htB, n0]]
        have n0' : (n == 0) = false := by simpa using n0
        have n0'' : (n != 0) = true := by simpa using n0
        go_enter Tryd.func36, Tryd.ntmps36
        repeat (first | (with_reducible (first | apply then_exit | apply inb_eq | apply then_normal | apply then_ret | apply inb_ret | apply inb_normal | (refine inb_ne (by decide) ?_))) | go_values | go_skip | go_guarded | go_step | go_upon | go_back | (simp only [Int.not_lt, Int.not_le] at *; go_simp) | (go_values <;> (try go_simp)))
        go_ret
        exact ⟨rfl, HB.out⟩
    have t2' : (t == 2) = false := by simpa using t2
    rw [show htB 97 t n = false by simp [htB, t2]]
    go_enter Tryd.func36, Tryd.ntmps36
    repeat (first | (with_reducible (first | apply then_exit | apply inb_eq | apply then_normal | apply then_ret | apply inb_ret | apply inb_normal | (refine inb_ne (by decide) ?_))) | go_values | go_skip | go_guarded | go_step | go_upon | go_back | (simp only [Int.not_lt, Int.not_le] at *; go_simp) | (go_values <;> (try go_simp)))
    go_ret
    exact ⟨rfl, HB.out⟩
  by_cases c115 : c = 115
  · subst c115
    have HQ : ∀ q, decide (t = 1 ∨ t = 2) = q → Hid (Calls Tryd.prog 42 #[.agg #[.int .i64 t, .int .i64 n, .slice p m cap]] (w.alloc (.cells #[.int .i64 t, .int .i64 n, .slice p m cap] 30)) (RBool q (w.alloc (.cells #[.int .i64 t, .int .i64 n, .slice p m cap] 30)))) := fun q hq => hq ▸ co_raw t n p m cap _
    by_cases t1 : t = 1
    · subst t1
      rw [show htB 115 1 n = true by simp [htB]]
      have HK := HQ true (by simp)
      clear HQ
      go_enter Tryd.func36, Tryd.ntmps36
      repeat (first | (with_reducible (first | apply then_exit | apply inb_eq | apply then_normal | apply then_ret | apply inb_ret | apply inb_normal | (refine inb_ne (by decide) ?_))) | go_values | go_skip | go_guarded | go_step | go_upon | go_back | (simp only [Int.not_lt, Int.not_le] at *; go_simp) | (go_values <;> (try go_simp)))
      refine HK.out.mono ?_
      rintro e w2 ⟨rfl, b2⟩
      have HB2 : Hid (Below w.heap.size w w2) := HB.out.trans (b2.mono HB.out.size)
      obtain ⟨x0, x1, x2, -⟩ := (HX.out.under b2).facts
      clear b2 HX HB
      repeat (first | (with_reducible (first | apply then_exit | apply inb_eq | apply then_normal | apply then_ret | apply inb_ret | apply inb_normal | (refine inb_ne (by decide) ?_))) | go_values | go_skip | go_guarded | go_step | go_upon | go_back | (simp only [Int.not_lt, Int.not_le] at *; go_simp) | (go_values <;> (try go_simp)))
      go_ret
      exact ⟨rfl, HB2.out⟩
    have t1' : (t == 1) = false := by simpa using t1
    by_cases t2 : t = 2
    · subst t2
      rw [show htB 115 2 n = true by simp [htB]]
      have HK := HQ true (by simp)
      clear HQ
      go_enter Tryd.func36, Tryd.ntmps36
      repeat (first | (with_reducible (first | apply then_exit | apply inb_eq | apply then_normal | apply then_ret | apply inb_ret | apply inb_normal | (refine inb_ne (by decide) ?_))) | go_values | go_skip | go_guarded | go_step | go_upon | go_back | (simp only [Int.not_lt, Int.not_le] at *; go_simp) | (go_values <;> (try go_simp)))
      refine HK.out.mono ?_
      rintro e w2 ⟨rfl, b2⟩
      have HB2 : Hid (Below w.heap.size w w2) := HB.out.trans (b2.mono HB.out.size)
      obtain ⟨x0, x1, x2, -⟩ := (HX.out.under b2).facts
      clear b2 HX HB
      repeat (first | (with_reducible (first | apply then_exit | apply inb_eq | apply then_normal | apply then_ret | apply inb_ret | apply inb_normal | (refine inb_ne (by decide) ?_))) | go_values | go_skip | go_guarded | go_step | go_upon | go_back | (simp only [Int.not_lt, Int.not_le] at *; go_simp) | (go_values <;> (try go_simp)))
      go_ret
      exact ⟨rfl, HB2.out⟩
    have t2' : (t == 2) = false := by simpa using t2
    by_cases t6 : t = 6
    · subst t6
      rw [show htB 115 6 n = true by simp [htB]]
      have HK := HQ false (by simp)
      clear HQ
      go_enter Tryd.func36, Tryd.ntmps36
      repeat (first | (with_reducible (first | apply then_exit | apply inb_eq | apply then_normal | apply then_ret | apply inb_ret | apply inb_normal | (refine inb_ne (by decide) ?_))) | go_values | go_skip | go_guarded | go_step | go_upon | go_back | (simp only [Int.not_lt, Int.not_le] at *; go_simp) | (go_values <;> (try go_simp)))
      refine HK.out.mono ?_
      rintro e w2 ⟨rfl, b2⟩
      have HB2 : Hid (Below w.heap.size w w2) := HB.out.trans (b2.mono HB.out.size)
      obtain ⟨x0, x1, x2, -⟩ := (HX.out.under b2).facts
      clear b2 HX HB
      repeat (first | (with_reducible (first | apply then_exit | apply inb_eq | apply then_normal | apply then_ret | apply inb_ret | apply inb_normal | (refine inb_ne (by decide) ?_))) | go_values | go_skip | go_guarded | go_step | go_upon | go_back | (simp only [Int.not_lt, Int.not_le] at *; go_simp) | (go_values <;> (try go_simp)))
      go_ret
      exact ⟨rfl, HB2.out⟩
    have t6' : (t == 6) = false := by simpa using t6
    by_cases t3 : t = 3
    · subst t3
      rw [show htB 115 3 n = true by simp [htB]]
      have HK := HQ false (by simp)
      clear HQ
      go_enter Tryd.func36, Tryd.ntmps36
      repeat (first | (with_reducible (first | apply then_exit | apply inb_eq | apply then_normal | apply then_ret | apply inb_ret | apply inb_normal | (refine inb_ne (by decide) ?_))) | go_values | go_skip | go_guarded | go_step | go_upon | go_back | (simp only [Int.not_lt, Int.not_le] at *; go_simp) | (go_values <;> (try go_simp)))
      refine HK.out.mono ?_
      rintro e w2 ⟨rfl, b2⟩
      have HB2 : Hid (Below w.heap.size w w2) := HB.out.trans (b2.mono HB.out.size)
      obtain ⟨x0, x1, x2, -⟩ := (HX.out.under b2).facts
      clear b2 HX HB
      repeat (first | (with_reducible (first | apply then_exit | apply inb_eq | apply then_normal | apply then_ret | apply inb_ret | apply inb_normal | (refine inb_ne (by decide) ?_))) | go_values | go_skip | go_guarded | go_step | go_upon | go_back | (simp only [Int.not_lt, Int.not_le] at *; go_simp) | (go_values <;> (try go_simp)))
      go_ret
      exact ⟨rfl, HB2.out⟩
    have t3' : (t == 3) = false := by simpa using t3
    by_cases t4 : t = 4
    · subst t4
      rw [show htB 115 4 n = true by simp [htB]]
      have HK := HQ false (by simp)
      clear HQ
      go_enter Tryd.func36, Tryd.ntmps36
      repeat (first | (with_reducible (first | apply then_exit | apply inb_eq | apply then_normal | apply then_ret | apply inb_ret | apply inb_normal | (refine inb_ne (by decide) ?_))) | go_values | go_skip | go_guarded | go_step | go_upon | go_back | (simp only [Int.not_lt, Int.not_le] at *; go_simp) | (go_values <;> (try go_simp)))
      refine HK.out.mono ?_
      rintro e w2 ⟨rfl, b2⟩
      have HB2 : Hid (Below w.heap.size w w2) := HB.out.trans (b2.mono HB.out.size)
      obtain ⟨x0, x1, x2, -⟩ := (HX.out.under b2).facts
      clear b2 HX HB
      repeat (first | (with_reducible (first | apply then_exit | apply inb_eq | apply then_normal | apply then_ret | apply inb_ret | apply inb_normal | (refine inb_ne (by decide) ?_))) | go_values | go_skip | go_guarded | go_step | go_upon | go_back | (simp only [Int.not_lt, Int.not_le] at *; go_simp) | (go_values <;> (try go_simp)))
      go_ret
      exact ⟨rfl, HB2.out⟩
    have t4' : (t == 4) = false := by simpa using t4
    rw [show htB 115 t n = false by simp [htB, t1, t2, t3, t4, t6]]
    have HK := HQ false (by simp [t1, t2])
    clear HQ
    go_enter Tryd.func36, Tryd.ntmps36
    repeat (first | (with_reducible (first | apply then_exit | apply inb_eq | apply then_normal | apply then_ret | apply inb_ret | apply inb_normal | (refine inb_ne (by decide) ?_))) | go_values | go_skip | go_guarded | go_step | go_upon | go_back | (simp only [Int.not_lt, Int.not_le] at *; go_simp) | (go_values <;> (try go_simp)))
    refine HK.out.mono ?_
    rintro e w2 ⟨rfl, b2⟩
    have HB2 : Hid (Below w.heap.size w w2) := HB.out.trans (b2.mono HB.out.size)
    obtain ⟨x0, x1, x2, -⟩ := (HX.out.under b2).facts
    clear b2 HX HB
    repeat (first | (with_reducible (first | apply then_exit | apply inb_eq | apply then_normal | apply then_ret | apply inb_ret | apply inb_normal | (refine inb_ne (by decide) ?_))) | go_values | go_skip | go_guarded | go_step | go_upon | go_back | (simp only [Int.not_lt, Int.not_le] at *; go_simp) | (go_values <;> (try go_simp)))
    go_ret
    exact ⟨rfl, HB2.out⟩
  by_cases c100 : c = 100
  · subst c100
    by_cases t3 : t = 3
    · subst t3
      rw [show htB 100 3 n = true by simp [htB]]
      go_enter Tryd.func36, Tryd.ntmps36
      repeat (first | (with_reducible (first | apply then_exit | apply inb_eq | apply then_normal | apply then_ret | apply inb_ret | apply inb_normal | (refine inb_ne (by decide) ?_))) | go_values | go_skip | go_guarded | go_step | go_upon | go_back | (simp only [Int.not_lt, Int.not_le] at *; go_simp) | (go_values <;> (try go_simp)))
      go_ret
      exact ⟨rfl, HB.out⟩
    have t3' : (t == 3) = false := by simpa using t3
    by_cases t4 : t = 4
    · subst t4
      rw [show htB 100 4 n = true by simp [htB]]
      go_enter Tryd.func36, Tryd.ntmps36
      repeat (first | (with_reducible (first | apply then_exit | apply inb_eq | apply then_normal | apply then_ret | apply inb_ret | apply inb_normal | (refine inb_ne (by decide) ?_))) | go_values | go_skip | go_guarded | go_step | go_upon | go_back | (simp only [Int.not_lt, Int.not_le] at *; go_simp) | (go_values <;> (try go_simp)))
      go_ret
      exact ⟨rfl, HB.out⟩
    have t4' : (t == 4) = false := by simpa using t4
    rw [show htB 100 t n = false by simp [htB, t3, t4]]
    go_enter Tryd.func36, Tryd.ntmps36
    repeat (first | (with_reducible (first | apply then_exit | apply inb_eq | apply then_normal | apply then_ret | apply inb_ret | apply inb_normal | (refine inb_ne (by decide) ?_))) | go_values | go_skip | go_guarded | go_step | go_upon | go_back | (simp only [Int.not_lt, Int.not_le] at *; go_simp) | (go_values <;> (try go_simp)))
    go_ret
    exact ⟨rfl, HB.out⟩
  by_cases c120 : c = 120
  · subst c120
    by_cases t3 : t = 3
    · subst t3
      rw [show htB 120 3 n = true by simp [htB]]
      go_enter Tryd.func36, Tryd.ntmps36
      repeat (first | (with_reducible (first | apply then_exit | apply inb_eq | apply then_normal | apply then_ret | apply inb_ret | apply inb_normal | (refine inb_ne (by decide) ?_))) | go_values | go_skip | go_guarded | go_step | go_upon | go_back | (simp only [Int.not_lt, Int.not_le] at *; go_simp) | (go_values <;> (try go_simp)))
      go_ret
      exact ⟨rfl, HB.out⟩
    have t3' : (t == 3) = false := by simpa using t3
    rw [show htB 120 t n = false by simp [htB, t3]]
    go_enter Tryd.func36, Tryd.ntmps36
    repeat (first | (with_reducible (first | apply then_exit | apply inb_eq | apply then_normal | apply then_ret | apply inb_ret | apply inb_normal | (refine inb_ne (by decide) ?_))) | go_values | go_skip | go_guarded | go_step | go_upon | go_back | (simp only [Int.not_lt, Int.not_le] at *; go_simp) | (go_values <;> (try go_simp)))
    go_ret
    exact ⟨rfl, HB.out⟩
  by_cases c121 : c = 121
  · subst c121
    by_cases t4 : t = 4
    · subst t4
      rw [show htB 121 4 n = true by simp [htB]]
      go_enter Tryd.func36, Tryd.ntmps36
      repeat (first | (with_reducible (first | apply then_exit | apply inb_eq | apply then_normal | apply then_ret | apply inb_ret | apply inb_normal | (refine inb_ne (by decide) ?_))) | go_values | go_skip | go_guarded | go_step | go_upon | go_back | (simp only [Int.not_lt, Int.not_le] at *; go_simp) | (go_values <;> (try go_simp)))
      go_ret
      exact ⟨rfl, HB.out⟩
    have t4' : (t == 4) = false := by simpa using t4
    rw [show htB 121 t n = false by simp [htB, t4]]
    go_enter Tryd.func36, Tryd.ntmps36
    repeat (first | (with_reducible (first | apply then_exit | apply inb_eq | apply then_normal | apply then_ret | apply inb_ret | apply inb_normal | (refine inb_ne (by decide) ?_))) | go_values | go_skip | go_guarded | go_step | go_upon | go_back | (simp only [Int.not_lt, Int.not_le] at *; go_simp) | (go_values <;> (try go_simp)))
    go_ret
    exact ⟨rfl, HB.out⟩
  by_cases c108 : c = 108
  · subst c108
    by_cases n0 : n = 0
    · subst n0
      rw [show htB 108 t 0 = false by simp [htB]]
      go_enter Tryd.func36, Tryd.ntmps36
      repeat (first | (with_reducible (first | apply then_exit | apply inb_eq | apply then_normal | apply then_ret | apply inb_ret | apply inb_normal | (refine inb_ne (by decide) ?_))) | go_values | go_skip | go_guarded | go_step | go_upon | go_back | (simp only [Int.not_lt, Int.not_le] at *; go_simp) | (go_values <;> (try go_simp)))
      go_ret
      exact ⟨rfl, HB.out⟩
    have n0' : (n == 0) = false := by simpa using n0
    have n0'' : (n != 0) = true := by simpa using n0
    by_cases t5 : t = 5
    · subst t5
      rw [show htB 108 5 n = true by simp [htB, n0]]
      go_enter Tryd.func36, Tryd.ntmps36
      repeat (first | (with_reducible (first | apply then_exit | apply inb_eq | apply then_normal | apply then_ret | apply inb_ret | apply inb_normal | (refine inb_ne (by decide) ?_))) | go_values | go_skip | go_guarded | go_step | go_upon | go_back | (simp only [Int.not_lt, Int.not_le] at *; go_simp) | (go_values <;> (try go_simp)))
      go_ret
      exact ⟨rfl, HB.out⟩
    have t5' : (t == 5) = false := by simpa using t5
    rw [show htB 108 t n = false by simp [htB, t5]]
    go_enter Tryd.func36, Tryd.ntmps36
    repeat (first | (with_reducible (first | apply then_exit | apply inb_eq | apply then_normal | apply then_ret | apply inb_ret | apply inb_normal | (refine inb_ne (by decide) ?_))) | go_values | go_skip | go_guarded | go_step | go_upon | go_back | (simp only [Int.not_lt, Int.not_le] at *; go_simp) | (go_values <;> (try go_simp)))
    go_ret
    exact ⟨rfl, HB.out⟩
  by_cases c102 : c = 102
  · subst c102
    by_cases t5 : t = 5
    · subst t5
      rw [show htB 102 5 n = true by simp [htB]]
      go_enter Tryd.func36, Tryd.ntmps36
      repeat (first | (with_reducible (first | apply then_exit | apply inb_eq | apply then_normal | apply then_ret | apply inb_ret | apply inb_normal | (refine inb_ne (by decide) ?_))) | go_values | go_skip | go_guarded | go_step | go_upon | go_back | (simp only [Int.not_lt, Int.not_le] at *; go_simp) | (go_values <;> (try go_simp)))
      go_ret
      exact ⟨rfl, HB.out⟩
    have t5' : (t == 5) = false := by simpa using t5
    rw [show htB 102 t n = false by simp [htB, t5]]
    go_enter Tryd.func36, Tryd.ntmps36
    repeat (first | (with_reducible (first | apply then_exit | apply inb_eq | apply then_normal | apply then_ret | apply inb_ret | apply inb_normal | (refine inb_ne (by decide) ?_))) | go_values | go_skip | go_guarded | go_step | go_upon | go_back | (simp only [Int.not_lt, Int.not_le] at *; go_simp) | (go_values <;> (try go_simp)))
    go_ret
    exact ⟨rfl, HB.out⟩
  rw [show htB c t n = false by simp [htB, c117, c97, c115, c100, c120, c121, c108, c102]]
  go_enter Tryd.func36, Tryd.ntmps36
  repeat (first | (with_reducible (first | apply then_exit | apply inb_eq | apply then_normal | apply then_ret | apply inb_ret | apply inb_normal | (refine inb_ne (by decide) ?_))) | go_values | go_skip | go_guarded | go_step | go_upon | go_back | (simp only [Int.not_lt, Int.not_le] at *; go_simp) | (go_values <;> (try go_simp)))
  go_ret
  exact ⟨rfl, HB.out⟩
end Go.Proofs.YtfjibcldghnjcaaDoor
