
/-
  relictref07.letter.
-/
import Derived.Test.YtgjjeghnfhjnnaaDoorOpRefA
namespace Go.Proofs.YtgjjeghnfhjnnaaDoor
open Go.RowKit
set_option linter.unusedVariables false
set_option linter.unusedSimpArgs false

def srcA (a : Ag) : Bool := srcT a.t a.n
/-- Whether an operand is by a letter, by the document. -/
def rletA (c : Int) (a : Ag) : Bool :=
  if c = 117 then decide (a.t = 0) else if c = 97 then decide (a.t = 2) && decide (0 < a.n) else if c = 115 then srcA a else if c = 100 then regT a.t a.n
  else if c = 120 then regT a.t a.n && decide (a.t = 3) else if c = 121 then regT a.t a.n && decide (a.t = 4) else if c = 108 then decide (a.t = 5) && decide (0 < a.n)
  else if c = 102 then decide (a.t = 5) else if c = 80 then decide (a.t = 7) && rpairsB a.kids else a.kids.all srcA && decide (a.t = 7)
set_option maxRecDepth 100000 in
set_option maxHeartbeats 4000000 in
theorem let_117 (t n : Int) (p : Option Addr) (m cap : Nat) (w : World) : Calls Tryd.prog 50 #[.int .u8 117, .agg #[.int .i64 t, .int .i64 n, .slice p m cap]] w (RBool (decide (t = 0)) w) := by
  have HB : Hid (Below w.heap.size w (w.alloc (.cells #[.int .i64 t, .int .i64 n, .slice p m cap] 25))) := box_below _ _ _
  have HX : Hid (BxA (w.alloc (.cells #[.int .i64 t, .int .i64 n, .slice p m cap] 25)) w.heap.size t n (.slice p m cap)) := BxA.new w t n _
  by_cases t0 : t = 0
  · subst t0
    rw [show decide ((0 : Int) = 0) = true from rfl]
    go_enter Tryd.func50, Tryd.ntmps50
    go_wp2_with fail
    go_ret
    exact ⟨rfl, HB.out⟩
  have t0' : (t == 0) = false := by simpa using t0
  rw [show decide (t = 0) = false from decide_eq_false t0]
  go_enter Tryd.func50, Tryd.ntmps50
  go_wp2_with fail
  go_ret
  exact ⟨rfl, HB.out⟩
set_option maxRecDepth 100000 in
set_option maxHeartbeats 4000000 in
theorem let_97 (t n : Int) (p : Option Addr) (m cap : Nat) (w : World) : Calls Tryd.prog 50 #[.int .u8 97, .agg #[.int .i64 t, .int .i64 n, .slice p m cap]] w (RBool (decide (t = 2) && decide (0 < n)) w) := by
  have HB : Hid (Below w.heap.size w (w.alloc (.cells #[.int .i64 t, .int .i64 n, .slice p m cap] 25))) := box_below _ _ _
  have HX : Hid (BxA (w.alloc (.cells #[.int .i64 t, .int .i64 n, .slice p m cap] 25)) w.heap.size t n (.slice p m cap)) := BxA.new w t n _
  by_cases t2 : t = 2
  · subst t2
    by_cases h : 0 < n
    · rw [show (decide ((2 : Int) = 2) && decide (0 < n)) = true by simp [h]]
      go_enter Tryd.func50, Tryd.ntmps50
      go_wp2_with fail
      go_ret
      exact ⟨rfl, HB.out⟩
    · rw [show (decide ((2 : Int) = 2) && decide (0 < n)) = false by simp; omega]
      go_enter Tryd.func50, Tryd.ntmps50
      go_wp2_with fail
      go_ret
      exact ⟨rfl, HB.out⟩
  have t2' : (t == 2) = false := by simpa using t2
  rw [show (decide (t = 2) && decide (0 < n)) = false by simp [t2]]
  go_enter Tryd.func50, Tryd.ntmps50
  go_wp2_with fail
  go_ret
  exact ⟨rfl, HB.out⟩
set_option maxRecDepth 100000 in
set_option maxHeartbeats 4000000 in
theorem let_115 (t n : Int) (p : Option Addr) (m cap : Nat) (w : World) : Calls Tryd.prog 50 #[.int .u8 115, .agg #[.int .i64 t, .int .i64 n, .slice p m cap]] w (RBool (srcT t n) w) := by
  have HB : Hid (Below w.heap.size w (w.alloc (.cells #[.int .i64 t, .int .i64 n, .slice p m cap] 25))) := box_below _ _ _
  have HX : Hid (BxA (w.alloc (.cells #[.int .i64 t, .int .i64 n, .slice p m cap] 25)) w.heap.size t n (.slice p m cap)) := BxA.new w t n _
  have HK : Hid (Calls Tryd.prog 65 #[.agg #[.int .i64 t, .int .i64 n, .slice p m cap]] (w.alloc (.cells #[.int .i64 t, .int .i64 n, .slice p m cap] 25)) (RBool (srcT t n) (w.alloc (.cells #[.int .i64 t, .int .i64 n, .slice p m cap] 25)))) := src_raw t n p m cap _
  generalize srcT t n = q at *
  go_enter Tryd.func50, Tryd.ntmps50
  go_wp2_with fail
  refine HK.out.mono ?_
  rintro e w2 ⟨rfl, b2⟩
  have HB2 : Hid (Below w.heap.size w w2) := HB.out.trans (b2.mono HB.out.size)
  obtain ⟨x0, x1, x2, -⟩ := (HX.out.under b2).facts
  clear b2 HX HB
  go_wp2_with fail
  go_ret
  exact ⟨rfl, HB2.out⟩
set_option maxRecDepth 100000 in
set_option maxHeartbeats 4000000 in
theorem let_100 (t n : Int) (p : Option Addr) (m cap : Nat) (w : World) : Calls Tryd.prog 50 #[.int .u8 100, .agg #[.int .i64 t, .int .i64 n, .slice p m cap]] w (RBool (regT t n) w) := by
  have HB : Hid (Below w.heap.size w (w.alloc (.cells #[.int .i64 t, .int .i64 n, .slice p m cap] 25))) := box_below _ _ _
  have HX : Hid (BxA (w.alloc (.cells #[.int .i64 t, .int .i64 n, .slice p m cap] 25)) w.heap.size t n (.slice p m cap)) := BxA.new w t n _
  have HK : Hid (Calls Tryd.prog 66 #[.agg #[.int .i64 t, .int .i64 n, .slice p m cap]] (w.alloc (.cells #[.int .i64 t, .int .i64 n, .slice p m cap] 25)) (RBool (regT t n) (w.alloc (.cells #[.int .i64 t, .int .i64 n, .slice p m cap] 25)))) := reg_raw t n p m cap _
  generalize regT t n = q at *
  go_enter Tryd.func50, Tryd.ntmps50
  go_wp2_with fail
  refine HK.out.mono ?_
  rintro e w2 ⟨rfl, b2⟩
  have HB2 : Hid (Below w.heap.size w w2) := HB.out.trans (b2.mono HB.out.size)
  obtain ⟨x0, x1, x2, -⟩ := (HX.out.under b2).facts
  clear b2 HX HB
  go_wp2_with fail
  go_ret
  exact ⟨rfl, HB2.out⟩
set_option maxRecDepth 100000 in
set_option maxHeartbeats 4000000 in
theorem let_120 (t n : Int) (p : Option Addr) (m cap : Nat) (w : World) : Calls Tryd.prog 50 #[.int .u8 120, .agg #[.int .i64 t, .int .i64 n, .slice p m cap]] w (RBool (regT t n && decide (t = 3)) w) := by
  have HB : Hid (Below w.heap.size w (w.alloc (.cells #[.int .i64 t, .int .i64 n, .slice p m cap] 25))) := box_below _ _ _
  have HX : Hid (BxA (w.alloc (.cells #[.int .i64 t, .int .i64 n, .slice p m cap] 25)) w.heap.size t n (.slice p m cap)) := BxA.new w t n _
  have HK : Hid (Calls Tryd.prog 66 #[.agg #[.int .i64 t, .int .i64 n, .slice p m cap]] (w.alloc (.cells #[.int .i64 t, .int .i64 n, .slice p m cap] 25)) (RBool (regT t n) (w.alloc (.cells #[.int .i64 t, .int .i64 n, .slice p m cap] 25)))) := reg_raw t n p m cap _
  generalize regT t n = q at *
  cases q
  · rw [Bool.false_and]
    go_enter Tryd.func50, Tryd.ntmps50
    go_wp2_with fail
    refine HK.out.mono ?_
    rintro e w2 ⟨rfl, b2⟩
    have HB2 : Hid (Below w.heap.size w w2) := HB.out.trans (b2.mono HB.out.size)
    obtain ⟨x0, x1, x2, -⟩ := (HX.out.under b2).facts
    clear b2 HX HB
    go_wp2_with fail
    go_ret
    exact ⟨rfl, HB2.out⟩
  rw [Bool.true_and]
  by_cases t3 : t = 3
  · subst t3
    rw [show decide ((3 : Int) = 3) = true from rfl]
    go_enter Tryd.func50, Tryd.ntmps50
    go_wp2_with fail
    refine HK.out.mono ?_
    rintro e w2 ⟨rfl, b2⟩
    have HB2 : Hid (Below w.heap.size w w2) := HB.out.trans (b2.mono HB.out.size)
    obtain ⟨x0, x1, x2, -⟩ := (HX.out.under b2).facts
    clear b2 HX HB
    go_wp2_with fail
    go_ret
    exact ⟨rfl, HB2.out⟩
  have t3' : (t == 3) = false := by simpa using t3
  rw [show decide (t = 3) = false from decide_eq_false t3]
  go_enter Tryd.func50, Tryd.ntmps50
  go_wp2_with fail
  refine HK.out.mono ?_
  rintro e w2 ⟨rfl, b2⟩
  have HB2 : Hid (Below w.heap.size w w2) := HB.out.trans (b2.mono HB.out.size)
  obtain ⟨x0, x1, x2, -⟩ := (HX.out.under b2).facts
  clear b2 HX HB
  go_wp2_with fail
  go_ret
  exact ⟨rfl, HB2.out⟩
set_option maxRecDepth 100000 in
set_option maxHeartbeats 4000000 in
theorem let_121 (t n : Int) (p : Option Addr) (m cap : Nat) (w : World) : Calls Tryd.prog 50 #[.int .u8 121, .agg #[.int .i64 t, .int .i64 n, .slice p m cap]] w (RBool (regT t n && decide (t = 4)) w) := by
  have HB : Hid (Below w.heap.size w (w.alloc (.cells #[.int .i64 t, .int .i64 n, .slice p m cap] 25))) := box_below _ _ _
  have HX : Hid (BxA (w.alloc (.cells #[.int .i64 t, .int .i64 n, .slice p m cap] 25)) w.heap.size t n (.slice p m cap)) := BxA.new w t n _
  have HK : Hid (Calls Tryd.prog 66 #[.agg #[.int .i64 t, .int .i64 n, .slice p m cap]] (w.alloc (.cells #[.int .i64 t, .int .i64 n, .slice p m cap] 25)) (RBool (regT t n) (w.alloc (.cells #[.int .i64 t, .int .i64 n, .slice p m cap] 25)))) := reg_raw t n p m cap _
  generalize regT t n = q at *
  cases q
  · rw [Bool.false_and]
    go_enter Tryd.func50, Tryd.ntmps50
    go_wp2_with fail
    refine HK.out.mono ?_
    rintro e w2 ⟨rfl, b2⟩
    have HB2 : Hid (Below w.heap.size w w2) := HB.out.trans (b2.mono HB.out.size)
    obtain ⟨x0, x1, x2, -⟩ := (HX.out.under b2).facts
    clear b2 HX HB
    go_wp2_with fail
    go_ret
    exact ⟨rfl, HB2.out⟩
  rw [Bool.true_and]
  by_cases t4 : t = 4
  · subst t4
    rw [show decide ((4 : Int) = 4) = true from rfl]
    go_enter Tryd.func50, Tryd.ntmps50
    go_wp2_with fail
    refine HK.out.mono ?_
    rintro e w2 ⟨rfl, b2⟩
    have HB2 : Hid (Below w.heap.size w w2) := HB.out.trans (b2.mono HB.out.size)
    obtain ⟨x0, x1, x2, -⟩ := (HX.out.under b2).facts
    clear b2 HX HB
    go_wp2_with fail
    go_ret
    exact ⟨rfl, HB2.out⟩
  have t4' : (t == 4) = false := by simpa using t4
  rw [show decide (t = 4) = false from decide_eq_false t4]
  go_enter Tryd.func50, Tryd.ntmps50
  go_wp2_with fail
  refine HK.out.mono ?_
  rintro e w2 ⟨rfl, b2⟩
  have HB2 : Hid (Below w.heap.size w w2) := HB.out.trans (b2.mono HB.out.size)
  obtain ⟨x0, x1, x2, -⟩ := (HX.out.under b2).facts
  clear b2 HX HB
  go_wp2_with fail
  go_ret
  exact ⟨rfl, HB2.out⟩
set_option maxRecDepth 100000 in
set_option maxHeartbeats 4000000 in
theorem let_108 (t n : Int) (p : Option Addr) (m cap : Nat) (w : World) : Calls Tryd.prog 50 #[.int .u8 108, .agg #[.int .i64 t, .int .i64 n, .slice p m cap]] w (RBool (decide (t = 5) && decide (0 < n)) w) := by
  have HB : Hid (Below w.heap.size w (w.alloc (.cells #[.int .i64 t, .int .i64 n, .slice p m cap] 25))) := box_below _ _ _
  have HX : Hid (BxA (w.alloc (.cells #[.int .i64 t, .int .i64 n, .slice p m cap] 25)) w.heap.size t n (.slice p m cap)) := BxA.new w t n _
  by_cases t5 : t = 5
  · subst t5
    by_cases h : 0 < n
    · rw [show (decide ((5 : Int) = 5) && decide (0 < n)) = true by simp [h]]
      go_enter Tryd.func50, Tryd.ntmps50
      go_wp2_with fail
      go_ret
      exact ⟨rfl, HB.out⟩
    · rw [show (decide ((5 : Int) = 5) && decide (0 < n)) = false by simp; omega]
      go_enter Tryd.func50, Tryd.ntmps50
      go_wp2_with fail
      go_ret
      exact ⟨rfl, HB.out⟩
  have t5' : (t == 5) = false := by simpa using t5
  rw [show (decide (t = 5) && decide (0 < n)) = false by simp [t5]]
  go_enter Tryd.func50, Tryd.ntmps50
  go_wp2_with fail
  go_ret
  exact ⟨rfl, HB.out⟩
set_option maxRecDepth 100000 in
set_option maxHeartbeats 4000000 in
theorem let_102 (t n : Int) (p : Option Addr) (m cap : Nat) (w : World) : Calls Tryd.prog 50 #[.int .u8 102, .agg #[.int .i64 t, .int .i64 n, .slice p m cap]] w (RBool (decide (t = 5)) w) := by
  have HB : Hid (Below w.heap.size w (w.alloc (.cells #[.int .i64 t, .int .i64 n, .slice p m cap] 25))) := box_below _ _ _
  have HX : Hid (BxA (w.alloc (.cells #[.int .i64 t, .int .i64 n, .slice p m cap] 25)) w.heap.size t n (.slice p m cap)) := BxA.new w t n _
  by_cases t5 : t = 5
  · subst t5
    rw [show decide ((5 : Int) = 5) = true from rfl]
    go_enter Tryd.func50, Tryd.ntmps50
    go_wp2_with fail
    go_ret
    exact ⟨rfl, HB.out⟩
  have t5' : (t == 5) = false := by simpa using t5
  rw [show decide (t = 5) = false from decide_eq_false t5]
  go_enter Tryd.func50, Tryd.ntmps50
  go_wp2_with fail
  go_ret
  exact ⟨rfl, HB.out⟩
set_option maxRecDepth 100000 in
set_option maxHeartbeats 4000000 in
theorem let_80 (t n : Int) (K : List Ag) (v : Value) (w : World) (h : IsG w ⟨t, n, K⟩ v) : Calls Tryd.prog 50 #[.int .u8 80, v] w (RBool (decide (t = 7) && rpairsB K) w) := by
  obtain ⟨p, cap, rfl, hf, hg⟩ := h.open
  dsimp only at *
  unfold agV
  have hbx := box_below w #[.int .i64 t, .int .i64 n, .slice p K.length cap] 25
  have HK : Hid (Calls Tryd.prog 67 #[.slice p K.length cap] (w.alloc (.cells #[.int .i64 t, .int .i64 n, .slice p K.length cap] 25)) (RBool (rpairsB K) (w.alloc (.cells #[.int .i64 t, .int .i64 n, .slice p K.length cap] 25)))) := rpairs_any K _ _ (hg.under hbx)
  have HB : Hid (Below w.heap.size w (w.alloc (.cells #[.int .i64 t, .int .i64 n, .slice p K.length cap] 25))) := hbx
  have HX : Hid (BxA (w.alloc (.cells #[.int .i64 t, .int .i64 n, .slice p K.length cap] 25)) w.heap.size t n (.slice p K.length cap)) := BxA.new w t n _
  generalize rpairsB K = q at *
  clear hf hg h hbx
  generalize K.length = m at *
  by_cases t7 : t = 7
  · subst t7
    rw [show decide ((7 : Int) = 7) = true from rfl, Bool.true_and]
    go_enter Tryd.func50, Tryd.ntmps50
    go_wp2_with fail
    refine HK.out.mono ?_
    rintro e w2 ⟨rfl, b2⟩
    have HB2 : Hid (Below w.heap.size w w2) := HB.out.trans (b2.mono HB.out.size)
    clear b2 HX HB
    go_wp2_with fail
    go_ret
    exact ⟨rfl, HB2.out⟩
  have t7' : (t == 7) = false := by simpa using t7
  rw [show decide (t = 7) = false from decide_eq_false t7, Bool.false_and]
  go_enter Tryd.func50, Tryd.ntmps50
  go_wp2_with fail
  go_ret
  exact ⟨rfl, HB.out⟩
set_option maxRecDepth 100000 in
set_option maxHeartbeats 4000000 in
theorem let_83 (t n : Int) (K : List Ag) (v : Value) (w : World) (h : IsG w ⟨t, n, K⟩ v) : Calls Tryd.prog 50 #[.int .u8 83, v] w (RBool (K.all srcA && decide (t = 7)) w) := by
  obtain ⟨p, cap, rfl, hf, hg⟩ := h.open
  dsimp only at *
  unfold agV
  obtain ⟨p0, cap0, he, hc1, hc2, hc3⟩ := hg.shape
  injection he with e1 e2 e3
  subst e1; subst e3
  have hbx := box_below w #[.int .i64 t, .int .i64 n, .slice p K.length cap] 25
  have HG : Hid (Gs (w.alloc (.cells #[.int .i64 t, .int .i64 n, .slice p K.length cap] 25)) (.slice p K.length cap) K) := hg.under hbx
  have HB : Hid (Below w.heap.size w (w.alloc (.cells #[.int .i64 t, .int .i64 n, .slice p K.length cap] 25))) := hbx
  have HX : Hid (BxA (w.alloc (.cells #[.int .i64 t, .int .i64 n, .slice p K.length cap] 25)) w.heap.size t n (.slice p K.length cap)) := BxA.new w t n _
  clear hf hg h hbx e2
  obtain ⟨r, hr⟩ : ∃ r, (K.all srcA && decide (t = 7)) = r := ⟨_, rfl⟩
  have HR : Hid ((K.all srcA && decide (t = 7)) = r) := hr
  rw [hr]; clear hr
  go_enter Tryd.func50, Tryd.ntmps50
  go_wp2_with fail
  generalize hw1 : w.alloc (.cells #[.int .i64 t, .int .i64 n, .slice p K.length cap] 25) = w1 at *
  generalize hgx : w.heap.size = gx at *
  go_loopg [5] K.length (fun gk s5 wr => ∃ k : Nat, k + gk = K.length ∧ s5 = .int .i64 (k : Int) ∧ Hid (Below w1.heap.size w1 wr) ∧ Hid (∀ j (hj : j < K.length), j < k → srcA K[j] = true))
  case atStart => exact ⟨0, by omega, rfl, Below.refl _ _, fun j _ hj => absurd hj (by omega)⟩
  case round =>
    obtain ⟨k, hk, rfl, HBI, HA⟩ := hrel
    obtain ⟨d0, d1, d2, -⟩ := (HX.out.under HBI.out).facts
    have HBW : Hid (Below gx w wr) := HB.out.trans (HBI.out.mono (by have := HX.out.lt; omega))
    cases gk with
    | zero =>
      obtain rfl : k = K.length := by omega
      have HT : Hid (K.all srcA = true) := by
        refine List.all_eq_true.2 (fun x hx => ?_)
        obtain ⟨j, hj, rfl⟩ := List.getElem_of_mem hx
        exact HA.out j hj hj
      by_cases t7 : t = 7
      · have HF : Hid (r = true) := by unfold Hid; rw [← HR.out, HT.out, decide_eq_true t7]; rfl
        subst t7
        clear HA HR HT
        go_wp2_with fail
        go_ret
        exact ⟨by rw [HF.out]; rfl, by rw [hgx]; exact HBW.out⟩
      · have HF : Hid (r = false) := by unfold Hid; rw [← HR.out, HT.out, decide_eq_false t7]; rfl
        have t7' : (t == 7) = false := by simpa using t7
        clear HA HR HT
        go_wp2_with fail
        go_ret
        exact ⟨by rw [HF.out]; rfl, by rw [hgx]; exact HBW.out⟩
    | succ g =>
      have hkl : k < K.length := by omega
      have hki : (k : Int) < (K.length : Int) := by omega
      have hkc : (k : Int) < (cap : Int) := by omega
      obtain ⟨b, off, ⟨xt, xn, xa, xm, xc⟩, rfl, hlt, ⟨a0, a1, a2⟩, hft, hx⟩ := (HG.out.under HBI.out).at k hkl
      unfold El.sl at a2
      dsimp only at a0 a1 a2
      obtain ⟨e1, e2, -, -⟩ := hx.el
      dsimp only at e1 e2
      have HC : Hid (Calls Tryd.prog 65 #[.agg #[.int .i64 xt, .int .i64 xn, .slice xa xm xc]] wr (RBool (srcA K[k]) wr)) := by
        have := src_raw xt xn xa xm xc wr
        rw [e1, e2] at this
        rw [e1, e2]
        exact this
      obtain ⟨q, hq⟩ : ∃ q, srcA K[k] = q := ⟨_, rfl⟩
      rw [hq] at HC
      have HQ : Hid (srcA K[k] = q) := hq
      clear hq hx hft e1 e2
      go_wp2_with fail
      refine HC.out.mono ?_
      rintro e w2 ⟨rfl, b2⟩
      have HB2 : Hid (Below w1.heap.size w1 w2) := HBI.out.trans (b2.mono HBI.out.size)
      have HBW2 : Hid (Below gx w w2) := HB.out.trans (HB2.out.mono (by have := HX.out.lt; omega))
      clear b2 HBI HC a0 a1 a2 d0 d1 d2
      cases q
      · have HF : Hid (r = false) := by
          unfold Hid
          rw [← HR.out]
          cases hr : K.all srcA
          · rfl
          · have := List.all_eq_true.1 hr _ (List.getElem_mem hkl)
            rw [HQ.out] at this
            cases this
        clear HR HA HQ
        go_wp2_with fail
        go_ret
        exact ⟨by rw [HF.out]; rfl, by rw [hgx]; exact HBW2.out⟩
      · have HA2 : Hid (∀ j (hj : j < K.length), j < k + 1 → srcA K[j] = true) := by
          unfold Hid
          intro j hj hjk
          rcases Nat.lt_or_ge j k with h | h
          · exact HA.out j hj h
          · obtain rfl : j = k := by omega
            exact HQ.out
        clear HA HQ HR
        go_wp2_with fail
        go_roundg g
        case measure => omega
        case rel => exact ⟨k + 1, by omega, by go_num, HB2.out, HA2⟩
/-- The letters there are. -/
def isLet (c : Int) : Prop := c = 117 ∨ c = 97 ∨ c = 115 ∨ c = 100 ∨ c = 120 ∨ c = 121 ∨ c = 108 ∨ c = 102 ∨ c = 80 ∨ c = 83
theorem let_any (c : Int) (hc : isLet c) (a : Ag) (v : Value) (w : World) (h : IsG w a v) : Calls Tryd.prog 50 #[.int .u8 c, v] w (RBool (rletA c a) w) := by
  have h0 := h
  obtain ⟨p, cap, rfl, hf, hg⟩ := h.open
  obtain ⟨t, n, K⟩ := a
  rcases hc with rfl | rfl | rfl | rfl | rfl | rfl | rfl | rfl | rfl | rfl
  · exact let_117 t n p K.length cap w
  · exact let_97 t n p K.length cap w
  · exact let_115 t n p K.length cap w
  · exact let_100 t n p K.length cap w
  · exact let_120 t n p K.length cap w
  · exact let_121 t n p K.length cap w
  · exact let_108 t n p K.length cap w
  · exact let_102 t n p K.length cap w
  · exact let_80 t n K _ w h0
  · exact let_83 t n K _ w h0
end Go.Proofs.YtgjjeghnfhjnnaaDoor
