
/-
  Operands by literal; relictlaw07.awake.
-/
import Derived.Test.YtgjjeghnfhjnnaaDoorOpI
namespace Go.Proofs.YtgjjeghnfhjnnaaDoor
open Go.RowKit
set_option linter.unusedVariables false
set_option linter.unusedSimpArgs false

/-- A single operand as it stands in memory, and as a tree. -/
def elS (p : Int × Int) : El := ⟨p.1, p.2, none, 0, 0⟩
def agS (p : Int × Int) : Ag := ⟨p.1, p.2, []⟩
theorem elS_fit {p : Int × Int} (h1 : -9223372036854775808 ≤ p.1 ∧ p.1 ≤ 9223372036854775807) (h2 : -9223372036854775808 ≤ p.2 ∧ p.2 ≤ 9223372036854775807) : El.fit (elS p) := by
  refine ⟨h1.1, h1.2, h2.1, h2.2, Nat.le_refl _, ?_⟩
  simp [elS]
theorem isG_single (w : World) (p : Int × Int) (hf : El.fit (elS p)) : IsG w (agS p) (elS p).v :=
  (isG_mk ..).2 ⟨none, 0, [], rfl, hf, rfl, Rw3.nil w, fun i h => absurd h (by simp)⟩
/-- Singles in new memory, as a slice. -/
theorem gs_lit (w : World) (l : List (Int × Int)) (hf : ∀ p ∈ l, El.fit (elS p)) (hl : l.length ≤ 1000000) : Gs (w.alloc (.cells (cl3 (l.map elS)).toArray 25)) (.slice (some ⟨w.heap.size, 0, none⟩) l.length l.length) (l.map agS) := by
  have hm : (l.map elS).length = l.length := List.length_map ..
  have ho : AOwn (w.alloc (.cells (cl3 (l.map elS)).toArray 25)) 0 (.slice (some ⟨w.heap.size, 0, none⟩) l.length l.length) (l.map elS) := by
    refine ⟨cl3_len _, .inr ⟨w.heap.size, l.length, _, ?_, Nat.zero_le _, heap_alloc_new w _, ?_, ?_, ?_, ?_⟩⟩
    · rw [hm]
    · rw [hm]; exact Nat.le_refl _
    · simp only [maxLen]; omega
    · simp [cl3_len]
    · rw [hm]; simp only [List.toList_toArray]; rw [List.take_of_length_le (by rw [cl3_len, hm]; exact Nat.le_refl _)]
  have hr := ho.rw3 (fun x hx => by obtain ⟨p, hp, rfl⟩ := List.mem_map.1 hx; exact hf p hp)
  refine ⟨some ⟨w.heap.size, 0, none⟩, l.length, l.map elS, ?_, ?_, hr, fun i h1 h2 => ?_⟩
  · rw [List.length_map]
  · rw [hm, List.length_map]
  · simp only [List.getElem_map]
    exact isG_single _ _ (hf _ (List.getElem_mem _))

theorem fits_mv : fitsI 4 [agS (1, 1), agS (3, 0)] = true := by decide +kernel
theorem fits_mv0 : fitsI 4 [] = false := by decide +kernel
set_option maxRecDepth 100000 in
set_option maxHeartbeats 4000000 in
theorem awake7 (w : World) (hN : Nam w) : Calls Tryd.prog 25 #[] w (RBool true w) := by
  have HN : Hid (Nam w) := hN
  clear hN
  have HS : Hid (∀ W, Calls Tryd.prog 43 #[.int .i64 4] W fun e w' => e = .returned (.string ⟨#[115, 100]⟩) ∧ W = w') := fun W => (sig_any 4 W).mono (fun e w' h => ⟨h.1, h.2.symm⟩)
  have HNM : Hid (∀ W, Nam W → Calls Tryd.prog 46 #[.int .i64 11] W fun e w' => e = .returned (.string ⟨#[114, 101, 116, 117, 114, 110]⟩) ∧ W = w') := fun W h => (name_any 11 W h).mono (fun e w' h => ⟨h.1, h.2.symm⟩)
  go_enter Tryd.func25, Tryd.ntmps25
  go_wp2_with fail
  refine (HS.out _).mono ?_
  rintro e w1 ⟨rfl, rfl⟩
  go_wp2_with fail
  refine (HNM.out _ HN.out).mono ?_
  rintro e w2 ⟨rfl, rfl⟩
  clear HS HNM
  go_wp2_with fail
  refine (I_any 1 _).mono ?_
  rintro e w3 ⟨rfl, b3⟩
  go_wp2_with fail
  refine (X_any 0 _).mono ?_
  rintro e w4 ⟨rfl, b4⟩
  have HB4 : Hid (Below w.heap.size w w4) := b3.trans (b4.mono b3.size)
  have HG : Hid (Gs (w4.alloc (.cells #[.int .i64 1, .int .i64 1, .slice none 0 0, .int .i64 3, .int .i64 0, .slice none 0 0] 25)) (.slice (some ⟨w4.heap.size, 0, none⟩) 2 2) [agS (1, 1), agS (3, 0)]) := gs_lit w4 [(1, 1), (3, 0)] (fun p hp => by simp only [List.mem_cons, List.not_mem_nil, or_false] at hp; rcases hp with rfl | rfl <;> exact elS_fit (by decide) (by decide)) (by decide)
  have HB5 : Hid (Below w.heap.size w (w4.alloc (.cells #[.int .i64 1, .int .i64 1, .slice none 0 0, .int .i64 3, .int .i64 0, .slice none 0 0] 25))) := HB4.out.trans ((box_below _ _ _).mono HB4.out.size)
  clear b3 b4 HB4
  go_wp2_with fail
  refine (Op_any 4 [agS (1, 1), agS (3, 0)] _ 2 _ HG.out (by decide)).mono ?_
  generalize w4.alloc (.cells #[.int .i64 1, .int .i64 1, .slice none 0 0, .int .i64 3, .int .i64 0, .slice none 0 0] 25) = w5 at *
  rintro e w6 ⟨p6, c6, rfl, g6, b6⟩
  have HG6 : Hid (Gs w6 (.slice p6 2 c6) [agS (1, 1), agS (3, 0)]) := g6
  have HB6 : Hid (Below w.heap.size w w6) := HB5.out.trans (b6.mono HB5.out.size)
  clear b6 g6 HB5 HG
  dsimp only [List.length_cons, List.length_nil]
  go_wp2_with fail
  refine (Fits_any 4 [agS (1, 1), agS (3, 0)] _ _ HG6.out).mono ?_
  rw [fits_mv]
  rintro e w7 ⟨rfl, b7⟩
  have HB7 : Hid (Below w.heap.size w w7) := HB6.out.trans (b7.mono HB6.out.size)
  clear b7 HG6 HB6
  go_wp2_with fail
  refine (Op_nil 4 _).mono ?_
  rintro e w8 ⟨p8, c8, rfl, g8, b8⟩
  have HG8 : Hid (Gs w8 (.slice p8 0 c8) []) := g8
  have HB8 : Hid (Below w.heap.size w w8) := HB7.out.trans (b8.mono HB7.out.size)
  clear b8 g8 HB7
  dsimp only [List.length_nil]
  go_wp2_with fail
  refine (Fits_any 4 [] _ _ HG8.out).mono ?_
  rw [fits_mv0]
  rintro e w9 ⟨rfl, b9⟩
  have HB9 : Hid (Below w.heap.size w w9) := HB8.out.trans (b9.mono HB8.out.size)
  clear b9 HG8 HB8
  go_wp2_with fail
  refine (ends_any 11 _).mono ?_
  rw [show endS 11 = true from rfl]
  rintro e wa ⟨rfl, rfl⟩
  go_wp2_with fail
  go_ret
  exact ⟨rfl, HB9.out⟩
end Go.Proofs.YtgjjeghnfhjnnaaDoor
