/-
  The document's own answers of layer 1 (relictref01): Add, Sub.
-/
import Derived.Test.YtedomcijnoekhaaRefA
namespace Go.Proofs.Ytedomcijnoekhaa
open Go.RowKit
set_option linter.unusedVariables false

theorem Owns.alloc {w : World} {base : Nat} {v : Value} {a : List Int} (h : Owns w base v a) (o : Obj) : Owns (w.alloc o) base v a := World.ownsRow.alloc h o

theorem owns_snoc {w : World} {base : Nat} {v : Value} {a : List Int} {z : Int} {n : Nat} {xs : List Value} (h : w.ownsRow base 33 1 v n xs) (hn : n = a.length + 1) (hx : xs = a.map (Value.int .u32) ++ [.int .u32 z]) : Owns w base v (a ++ [z]) := by
  subst hn; subst hx
  unfold Owns
  simpa using h

theorem V_snoc (a : List Int) (z : Int) : V (a ++ [z]) = V a + B a.length * z := by
  rw [V_append]; simp [V]

theorem Ok.snoc {a : List Int} (ha : Ok a) {z : Int} (h0 : 0 ≤ z) (h1 : z < 4294967296) : Ok (a ++ [z]) :=
  ha.append (fun y hy => by simp at hy; omega)

theorem radd_step (L a b : List Int) (k : Nat) (c x y : Int) (hl : L.length = k) (hx : x = a.getD k 0) (hy : y = b.getD k 0) (h : V L + B k * c = V (a.take k) + V (b.take k)) :
    V (L ++ [(c + x + y) % 4294967296]) + B (k + 1) * ((c + x + y) / 4294967296) = V (a.take (k + 1)) + V (b.take (k + 1)) := by
  rw [V_snoc, hl, V_take_next a, V_take_next b, ← hx, ← hy]
  generalize hs : c + x + y = s
  have e : B k * (s % 4294967296) + B (k + 1) * (s / 4294967296) = B k * s := by
    simp only [B]
    rw [Int.mul_comm 4294967296 (B k), Int.mul_assoc, ← Int.mul_add]
    congr 1
    omega
  rw [← hs, Int.mul_add, Int.mul_add, hs] at e
  omega

theorem radd_fin (L a b : List Int) (n : Nat) (c : Int) (ha : Ok a) (hb : Ok b) (hL : Ok L) (hl : L.length = n + 1) (hna : a.length ≤ n) (hnb : b.length ≤ n) (hc : 0 ≤ c) (h : V L + B (n + 1) * c = V (a.take (n + 1)) + V (b.take (n + 1))) : V L = V a + V b := by
  rw [List.take_of_length_le (by omega), List.take_of_length_le (by omega)] at h
  have h1 := V_lt ha
  have h2 := V_lt hb
  have h3 := B_mono hna
  have h4 := B_mono hnb
  have h5 := V_nonneg hL
  have h6 := B_pos n
  by_cases hc0 : c = 0
  · subst hc0; omega
  · have : B (n + 1) * 1 ≤ B (n + 1) * c := Int.mul_le_mul_of_nonneg_left (by omega) (Int.le_of_lt (B_pos _))
    simp only [B] at this h
    omega

set_option maxRecDepth 100000 in
set_option maxHeartbeats 4000000 in
theorem radd_any (va vb : Value) (a b : List Int) (w : World) (ha : Sl w va a) (hb : Sl w vb b) (hla : a.length ≤ 100000) (hlb : b.length ≤ 100000) :
    Calls Try.prog 20 #[va, vb] w fun e w' => NumPost w (V a + V b) (a.length + b.length + 1) e w' := by
  obtain ⟨i0, hi, hz0, hz1, hz2⟩ := info_parts Try.infoU32
  obtain ⟨pa, ca, rfl⟩ := ha.shape
  obtain ⟨pb, cb, rfl⟩ := hb.shape
  by_cases hab : b.length ≤ a.length
  · have hab' : (b.length : Int) ≤ (a.length : Int) := by omega
    go_enter Try.func20, Try.ntmps20
    go_wp2_with fail
    go_loopw [5, 6, 7] (fun l c i wr => ∃ (k : Nat) (cc : Int) (L : List Int), k ≤ a.length + 1 ∧ i = .int .i64 k ∧ c = .int .u64 cc ∧ 0 ≤ cc ∧ cc ≤ 1 ∧ L.length = k ∧ Ok L ∧ Owns wr w.heap.size l L ∧ Below w.heap.size w wr ∧
      V L + B k * cc = V (a.take k) + V (b.take k)) (fun _ _ i _ => a.length + 1 - (intOf i).toNat)
    case atStart => exact ⟨0, 0, [], by omega, rfl, rfl, by omega, by omega, rfl, Ok.nil, World.ownsRow_nil _ _ _ _, Below.refl _ _, by simp [V]⟩
    case round =>
      obtain ⟨k, cc, L, hk, rfl, rfl, hc0, hc1, hLl, hLok, hown, hbel, hV⟩ := hrel
      have HV : Hid _ := hV
      clear hV
      have hsa := ha.below hbel
      have hsb := hb.below hbel
      by_cases hkn : k < a.length + 1
      · have hkn' : (k : Int) < (a.length : Int) + 1 := by omega
        have hxa := ha.ok.getD k
        have hxb := hb.ok.getD k
        have HST : Hid (V (L ++ [(cc + a.getD k 0 + b.getD k 0) % 4294967296]) + B (k + 1) * ((cc + a.getD k 0 + b.getD k 0) / 4294967296) = V (a.take (k + 1)) + V (b.take (k + 1))) := radd_step L a b k cc _ _ hLl rfl rfl HV.out
        have CA : Hid (∀ w, Sl w (.slice pa a.length ca) a → Calls Try.prog 39 #[.slice pa a.length ca, .int .i64 (k : Int)] w fun e w' => e = .returned (.int .u64 (a.getD k 0)) ∧ w' = w) := fun w h => at_any _ a (k : Int) k w rfl h (by omega)
        have CB : Hid (∀ w, Sl w (.slice pb b.length cb) b → Calls Try.prog 39 #[.slice pb b.length cb, .int .i64 (k : Int)] w fun e w' => e = .returned (.int .u64 (b.getD k 0)) ∧ w' = w) := fun w h => at_any _ b (k : Int) k w rfl h (by omega)
        generalize a.getD k 0 = x at *
        generalize b.getD k 0 = y at *
        have HL : Hid (L.length = k) := hLl
        clear hLl
        have hLk : L.length ≤ 200001 := by have := HL.out; omega
        go_wp2_with fail
        refine (CA.out _ hsa).mono ?_
        rintro e w' ⟨rfl, hw⟩
        subst hw
        go_wp2_with fail
        refine (CB.out _ hsb).mono ?_
        rintro e w' ⟨rfl, hw⟩
        subst hw
        have hbsz := hbel.size
        go_wp2_with (first | (at_builtin; refine wpList_append_own _ rfl _ _ 22 rfl w.heap.size 33 i0 (.int .u32 0) 1 4 Try.underlying22 hi hz0 hz1 hz2 rfl (by decide) _ _ _ rfl (World.ownsRow.alloc hown _) ⟨_, 0, none⟩ 1 1 [.int .u32 ((cc + x + y) % 4294967296)] rfl rfl (cell_one_new _ _ _) (fun u hu => by simp at hu; subst hu; rfl) (by simp only [maxLen]; omega) (by omega) (by simp; omega) ?_; intro v' w1 hown1 hgr1 _; have hO := owns_snoc (a := L) (z := (cc + x + y) % 4294967296) hown1 rfl rfl; have hB1 := (hbel.alloc hbsz (.cells #[.int .u32 ((cc + x + y) % 4294967296)] 33)).grown hgr1 (by simp; omega) (fun k hk => (World.ownsRow.lt hown k hk).1); clear hown1 hgr1 hown) | fail)
        go_roundw
        case rel => exact ⟨k + 1, _, L ++ [(cc + x + y) % 4294967296], by omega, by go_num, rfl, by omega, by omega, by simp; exact HL.out, hLok.snoc (by omega) (by omega), hO, hB1, HST.out⟩
        case measure => simp [intOf]; omega
      · have hkn' : ¬ (k : Int) < (a.length : Int) + 1 := by omega
        obtain rfl : k = a.length + 1 := by omega
        have HF : Hid (V L = V a + V b) := radd_fin L a b a.length cc ha.ok hb.ok hLok hLl (by omega) (by omega) hc0 HV.out
        have hsl := hown.sl hLok
        clear HV hown
        go_wp2_with fail
        refine (rnorm_any _ L _ hsl (by omega)).mono ?_
        rintro e w' ⟨v5, z5, rfl, s5, m5, x5, l5, b5, g5⟩
        have FIN : Hid (NumPost w (V a + V b) (a.length + b.length + 1) (.returned v5) w') := ⟨v5, z5, rfl, s5, m5, x5.trans HF.out, by omega, hbel.trans (b5.mono hbel.size), fun k hk => Nat.le_trans hbel.size (g5 k hk)⟩
        clear x5
        go_wp2_with fail
        go_ret
        exact FIN.out
  · have hab' : (a.length : Int) ≤ (b.length : Int) := by omega
    have hab2 : (a.length : Int) < (b.length : Int) := by omega
    go_enter Try.func20, Try.ntmps20
    go_wp2_with fail
    go_loopw [5, 6, 7] (fun l c i wr => ∃ (k : Nat) (cc : Int) (L : List Int), k ≤ b.length + 1 ∧ i = .int .i64 k ∧ c = .int .u64 cc ∧ 0 ≤ cc ∧ cc ≤ 1 ∧ L.length = k ∧ Ok L ∧ Owns wr w.heap.size l L ∧ Below w.heap.size w wr ∧
      V L + B k * cc = V (a.take k) + V (b.take k)) (fun _ _ i _ => b.length + 1 - (intOf i).toNat)
    case atStart => exact ⟨0, 0, [], by omega, rfl, rfl, by omega, by omega, rfl, Ok.nil, World.ownsRow_nil _ _ _ _, Below.refl _ _, by simp [V]⟩
    case round =>
      obtain ⟨k, cc, L, hk, rfl, rfl, hc0, hc1, hLl, hLok, hown, hbel, hV⟩ := hrel
      have HV : Hid _ := hV
      clear hV
      have hsa := ha.below hbel
      have hsb := hb.below hbel
      by_cases hkn : k < b.length + 1
      · have hkn' : (k : Int) < (b.length : Int) + 1 := by omega
        have hxa := ha.ok.getD k
        have hxb := hb.ok.getD k
        have HST : Hid (V (L ++ [(cc + a.getD k 0 + b.getD k 0) % 4294967296]) + B (k + 1) * ((cc + a.getD k 0 + b.getD k 0) / 4294967296) = V (a.take (k + 1)) + V (b.take (k + 1))) := radd_step L a b k cc _ _ hLl rfl rfl HV.out
        have CA : Hid (∀ w, Sl w (.slice pa a.length ca) a → Calls Try.prog 39 #[.slice pa a.length ca, .int .i64 (k : Int)] w fun e w' => e = .returned (.int .u64 (a.getD k 0)) ∧ w' = w) := fun w h => at_any _ a (k : Int) k w rfl h (by omega)
        have CB : Hid (∀ w, Sl w (.slice pb b.length cb) b → Calls Try.prog 39 #[.slice pb b.length cb, .int .i64 (k : Int)] w fun e w' => e = .returned (.int .u64 (b.getD k 0)) ∧ w' = w) := fun w h => at_any _ b (k : Int) k w rfl h (by omega)
        generalize a.getD k 0 = x at *
        generalize b.getD k 0 = y at *
        have HL : Hid (L.length = k) := hLl
        clear hLl
        have hLk : L.length ≤ 200001 := by have := HL.out; omega
        go_wp2_with fail
        refine (CA.out _ hsa).mono ?_
        rintro e w' ⟨rfl, hw⟩
        subst hw
        go_wp2_with fail
        refine (CB.out _ hsb).mono ?_
        rintro e w' ⟨rfl, hw⟩
        subst hw
        have hbsz := hbel.size
        go_wp2_with (first | (at_builtin; refine wpList_append_own _ rfl _ _ 22 rfl w.heap.size 33 i0 (.int .u32 0) 1 4 Try.underlying22 hi hz0 hz1 hz2 rfl (by decide) _ _ _ rfl (World.ownsRow.alloc hown _) ⟨_, 0, none⟩ 1 1 [.int .u32 ((cc + x + y) % 4294967296)] rfl rfl (cell_one_new _ _ _) (fun u hu => by simp at hu; subst hu; rfl) (by simp only [maxLen]; omega) (by omega) (by simp; omega) ?_; intro v' w1 hown1 hgr1 _; have hO := owns_snoc (a := L) (z := (cc + x + y) % 4294967296) hown1 rfl rfl; have hB1 := (hbel.alloc hbsz (.cells #[.int .u32 ((cc + x + y) % 4294967296)] 33)).grown hgr1 (by simp; omega) (fun k hk => (World.ownsRow.lt hown k hk).1); clear hown1 hgr1 hown) | fail)
        go_roundw
        case rel => exact ⟨k + 1, _, L ++ [(cc + x + y) % 4294967296], by omega, by go_num, rfl, by omega, by omega, by simp; exact HL.out, hLok.snoc (by omega) (by omega), hO, hB1, HST.out⟩
        case measure => simp [intOf]; omega
      · have hkn' : ¬ (k : Int) < (b.length : Int) + 1 := by omega
        obtain rfl : k = b.length + 1 := by omega
        have HF : Hid (V L = V a + V b) := radd_fin L a b b.length cc ha.ok hb.ok hLok hLl (by omega) (by omega) hc0 HV.out
        have hsl := hown.sl hLok
        clear HV hown
        go_wp2_with fail
        refine (rnorm_any _ L _ hsl (by omega)).mono ?_
        rintro e w' ⟨v5, z5, rfl, s5, m5, x5, l5, b5, g5⟩
        have FIN : Hid (NumPost w (V a + V b) (a.length + b.length + 1) (.returned v5) w') := ⟨v5, z5, rfl, s5, m5, x5.trans HF.out, by omega, hbel.trans (b5.mono hbel.size), fun k hk => Nat.le_trans hbel.size (g5 k hk)⟩
        clear x5
        go_wp2_with fail
        go_ret
        exact FIN.out
end Go.Proofs.Ytedomcijnoekhaa
