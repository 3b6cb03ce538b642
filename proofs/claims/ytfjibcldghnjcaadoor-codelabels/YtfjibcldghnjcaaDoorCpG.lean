/-
  compact: Put.
-/
import Derived.Test.YtfjibcldghnjcaaDoorCpF
namespace Go.Proofs.YtfjibcldghnjcaaDoor
open Go.RowKit
set_option linter.unusedVariables false
set_option linter.unusedSimpArgs false

/-- What Put puts. -/
def El.put (x : El) (L : List El) : List UInt8 := if x.t = 7 then 23 :: (numB 0 (L.length : Int) ++ elsB L) else sglB x.t x.n
def El.putS (x : El) (L : List El) : List UInt8 := if x.ok L = true then x.put L else []

set_option maxRecDepth 100000 in
theorem clip_any (v : Value) (l : List UInt8) (w : World) (h : By w v l) : Calls Tryd.prog 23 #[v] w fun e w' => ∃ a, e = .returned (.slice a l.length l.length) ∧ By w (.slice a l.length l.length) l ∧ w' = w := by
  obtain ⟨a, cap, rfl, hc, hm, hn⟩ := h.shape
  have h2 := h.take l.length l.length (Nat.le_refl _) (Nat.le_refl _) hc
  rw [List.take_length] at h2
  have hi : (l.length : Int) ≤ (cap : Int) := by omega
  cases a with
  | none =>
    have hz := hn rfl
    subst hz
    obtain rfl : l = [] := List.eq_nil_of_length_eq_zero (by omega)
    go_enter Tryd.func23, Tryd.ntmps23
    go_wp2_with fail
    go_ret
    exact ⟨none, rfl, By.nil w, rfl⟩
  | some ad =>
    go_enter Tryd.func23, Tryd.ntmps23
    go_wp2_with fail
    go_ret
    exact ⟨some ad, by simp, h2, rfl⟩

def PutA (w : World) (l L : List UInt8) (e : Ending) (w' : World) : Prop := ∃ v', e = .returned v' ∧ By w' v' (l ++ L) ∧ Below w.heap.size w w'

theorem El.sgl_of {x : El} {L : List El} (h : x.ok L = true) (h7 : x.t ≠ 7) : x.ok1 = true := by
  unfold El.ok at h
  rwa [if_neg h7] at h

set_option maxRecDepth 100000 in
set_option maxHeartbeats 2000000 in
theorem put_any (v : Value) (l : List UInt8) (x : El) (L : List El) (w : World) (hS : Spn w) (h : By w v l) (hl : l.length ≤ 80000000) (hf : x.fit) (hx : Rw3 w x.sl L) (hm : x.m = L.length) :
    Calls Tryd.prog 18 #[v, agV x.t x.n x.sl] w fun e w' => PutA w l (x.putS L) e w' := by
  have HC : Hid (∀ W, Spn W → Rw3 W x.sl L → Calls Tryd.prog 24 #[agV x.t x.n x.sl] W fun e w' => e = .returned (.bool (x.ok L)) ∧ Below W.heap.size W w') := fun W h1 h2 => check_any x L W h1 hf h2 hm
  have HP : Hid (∀ W v', x.ok L = true → Below w.heap.size w W → RB W w.heap.size v' l → Calls Tryd.prog 25 #[v', agV x.t x.n x.sl] W fun e w' => PutS w W l (x.put L) e w') := by
    intro W v' ho hb hr
    unfold El.put
    by_cases h7 : x.t = 7
    · rw [if_pos h7]
      have ho2 := ho
      unfold El.ok at ho2
      rw [if_pos h7] at ho2
      simp only [Bool.and_eq_true, decide_eq_true_eq] at ho2
      have := put_list w v' l x.n x.a x.c L W hb hr hl hf.2.2.2.2.2 (by have := hf.2.2.2.2.1; omega) (by unfold El.sl at hx; rwa [hm] at hx) ho2.1.2 ho2.2
      unfold El.sl
      rw [h7, hm]
      exact this
    · rw [if_neg h7]
      exact put_single w v' l x W hb hr (by omega) hf (El.sgl_of ho h7)
  obtain ⟨ok, hok⟩ : ∃ ok, x.ok L = ok := ⟨_, rfl⟩
  obtain ⟨P, hP⟩ : ∃ P, x.putS L = P := ⟨_, rfl⟩
  have HPS : Hid ((ok = true → P = x.put L) ∧ (ok = false → P = [])) := by
    unfold Hid
    rw [← hP, ← hok]
    unfold El.putS
    constructor
    · intro e; rw [if_pos e]
    · intro e; rw [if_neg (by rw [e]; decide)]
  rw [hok] at HC HP
  rw [hP]
  clear hP hok
  obtain ⟨t, n, a, m, c⟩ := x
  unfold El.fit at hf
  unfold El.sl at hx HC HP ⊢
  dsimp only at hf hx hm HC HP HPS ⊢
  unfold agV at HC HP ⊢
  have hb1 := (Below.refl w.heap.size w).alloc (Nat.le_refl _) (.cells #[.int .i64 t, .int .i64 n, .slice a m c] 30)
  have HB1 : Hid (Below w.heap.size w (w.alloc (.cells #[.int .i64 t, .int .i64 n, .slice a m c] 30))) := hb1
  have HX : Hid (BxA (w.alloc (.cells #[.int .i64 t, .int .i64 n, .slice a m c] 30)) w.heap.size t n (.slice a m c)) := BxA.new w t n _
  have HS1 : Hid (Spn (w.alloc (.cells #[.int .i64 t, .int .i64 n, .slice a m c] 30))) := hS.under hb1
  have HV1 : Hid (By (w.alloc (.cells #[.int .i64 t, .int .i64 n, .slice a m c] 30)) v l) := h.under hb1
  have HR1 : Hid (Rw3 (w.alloc (.cells #[.int .i64 t, .int .i64 n, .slice a m c] 30)) (.slice a m c) L) := hx.under hb1
  clear hb1 hS h hx hm
  obtain ⟨c0, c1, c2, -⟩ := HX.out.facts
  go_enter Tryd.func18, Tryd.ntmps18
  go_wp2_with fail
  refine (clip_any v l _ HV1.out).mono ?_
  rintro e w2 ⟨a', rfl, hy, rfl⟩
  have HY : Hid (By (w.alloc (.cells #[.int .i64 t, .int .i64 n, .slice a m c] 30)) (.slice a' l.length l.length) l) := hy
  clear hy
  generalize w.alloc (.cells #[.int .i64 t, .int .i64 n, .slice a m c] 30) = w1 at *
  generalize hwg : w.heap.size = g at *
  go_wp2_with fail
  refine (HC.out _ HS1.out HR1.out).mono ?_
  rintro e w2 ⟨rfl, b2⟩
  have HB2 : Hid (Below g w w2) := HB1.out.trans (b2.mono (by have := HB1.out.size; omega))
  have HY2 : Hid (By w2 (.slice a' l.length l.length) l) := HY.out.under b2
  have hX2 := HX.out.under b2
  obtain ⟨d0, d1, d2, -⟩ := hX2.facts
  clear c0 c1 c2 hX2 b2
  cases ok with
  | true =>
    have HE : Hid _ := HPS.out.1 rfl
    go_wp2_with fail
    refine (HP.out _ _ trivial HB2.out (.inr ⟨HY2.out, _, rfl⟩)).mono ?_
    rintro e w3 ⟨v3, rfl, o3, hW3, k3⟩
    go_wp2_with fail
    go_ret
    exact ⟨v3, rfl, by rw [HE.out]; exact o3.by, by rw [hwg]; rw [hwg] at hW3; exact hW3⟩
  | false =>
    have HE : Hid _ := HPS.out.2 rfl
    go_wp2_with fail
    go_ret
    exact ⟨_, rfl, by rw [HE.out, List.append_nil]; exact HY2.out, by rw [hwg]; exact HB2.out⟩
end Go.Proofs.YtfjibcldghnjcaaDoor
