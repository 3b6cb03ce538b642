/-
  relictref06.Check and Put, over what lies in memory: the answers of the program's own.
-/
import Derived.Test.YtgjjeghnfhjnnaaDoorCrPutL
import Derived.Test.YtgjjeghnfhjnnaaDoorCrK
namespace Go.Proofs.YtgjjeghnfhjnnaaDoor
open Go.RowKit
set_option linter.unusedVariables false
set_option linter.unusedSimpArgs false

set_option maxRecDepth 100000 in
set_option maxHeartbeats 2000000 in
theorem rPut_any (w : World) (x : El) (L : List El) (hf : x.fit) (hx : Rw3 w x.sl L) (hm : x.m = L.length) : Calls Tryd.prog 14 #[agV x.t x.n x.sl] w fun e w' => PutA w [] (x.putS L) e w' := by
  have HC : Hid (∀ W, Below w.heap.size w W → Calls Tryd.prog 12 #[agV x.t x.n x.sl] W fun e w' => CxPost W (x.ok L) e w') := fun W hW => rcx_any W x L hf (hx.under hW) hm
  have HP : Hid (∀ W, x.ok L = true → Below w.heap.size w W → Calls Tryd.prog 38 #[agV x.t x.n x.sl] W fun e w' => RnPost W (x.put L) e w') := by
    intro W ho hb
    unfold El.put
    by_cases h7 : x.t = 7
    · rw [if_pos h7]
      have ho2 := ho
      unfold El.ok at ho2
      rw [if_pos h7] at ho2
      simp only [Bool.and_eq_true, decide_eq_true_eq] at ho2
      have := rput_list W x.n x.a x.c L (by have := hx.under hb; unfold El.sl at this; rwa [hm] at this) ho2.1.2 ho2.2
      unfold El.sl
      rw [h7, hm]
      exact this
    · rw [if_neg h7]
      have h1 := El.sgl_of ho h7
      unfold El.ok1 at h1
      simp only [Bool.and_eq_true] at h1
      exact rput_sgl W x.t x.n x.a x.m x.c h1.1
  obtain ⟨ok, hok⟩ : ∃ ok, x.ok L = ok := ⟨_, rfl⟩
  obtain ⟨P, hP⟩ : ∃ P, x.putS L = P := ⟨_, rfl⟩
  have HPS : Hid ((ok = true → P = x.put L) ∧ (ok = false → P = [])) := by
    unfold Hid
    rw [← hP, ← hok]
    unfold El.putS
    constructor
    · intro e; rw [if_pos e]
    · intro e; rw [if_neg (by rw [e]; decide)]
  rw [hok] at HC HP
  rw [hP]
  clear hP hok
  obtain ⟨t, n, a, m, c⟩ := x
  unfold El.sl at HC HP ⊢
  dsimp only at HC HP HPS ⊢
  unfold agV at HC HP ⊢
  have HB1 : Hid (Below w.heap.size w (w.alloc (.cells #[.int .i64 t, .int .i64 n, .slice a m c] 25))) := (Below.refl _ _).alloc (Nat.le_refl _) _
  have HX : Hid (BxA (w.alloc (.cells #[.int .i64 t, .int .i64 n, .slice a m c] 25)) w.heap.size t n (.slice a m c)) := BxA.new w t n _
  obtain ⟨c0, c1, c2, -⟩ := HX.out.facts
  clear hx hf hm
  go_enter Tryd.func14, Tryd.ntmps14
  go_wp2_with fail
  refine (HC.out _ HB1.out).mono ?_
  rintro e w2 ⟨rfl, b2⟩
  have HB2 : Hid (Below w.heap.size w w2) := HB1.out.trans (b2.mono HB1.out.size)
  have hX2 := HX.out.under b2
  obtain ⟨d0, d1, d2, -⟩ := hX2.facts
  clear c0 c1 c2 hX2 b2
  cases ok with
  | true =>
    have HE : Hid _ := HPS.out.1 rfl
    go_wp2_with fail
    refine (HP.out _ trivial HB2.out).mono ?_
    rintro e w3 ⟨v3, rfl, o3, b3⟩
    have HB3 : Hid (Below w.heap.size w w3) := HB2.out.trans (b3.mono HB2.out.size)
    have HY3 := o3.by
    clear b3 o3
    go_wp2_with fail
    go_ret
    exact ⟨v3, rfl, by rw [HE.out]; exact HY3, HB3.out⟩
  | false =>
    have HE : Hid _ := HPS.out.2 rfl
    go_wp2_with fail
    go_ret
    exact ⟨_, rfl, by rw [HE.out]; exact By.nil _, HB2.out⟩
end Go.Proofs.YtgjjeghnfhjnnaaDoor
