import Derived.Test.YtmhcgdigccaogaaRefA
import Derived.Deep.RegionWith
/-
  The document's own answers of layer 1 (relictref01): Add, Sub.
-/
namespace Go.Proofs.Ytmhcgdigccaogaa
open Go.RowKit
set_option linter.unusedVariables false

theorem Owns.alloc {w : World} {base : Nat} {v : Value} {a : List Int} (h : Owns w base v a) (o : Obj) : Owns (w.alloc o) base v a := World.ownsRow.alloc h o

theorem owns_snoc {w : World} {base : Nat} {v : Value} {a : List Int} {z : Int} {n : Nat} {xs : List Value} (h : w.ownsRow base 53 1 v n xs) (hn : n = a.length + 1) (hx : xs = a.map (Value.int .u32) ++ [.int .u32 z]) : Owns w base v (a ++ [z]) := by
  subst hn; subst hx
  unfold Owns
  simpa using h

theorem V_snoc (a : List Int) (z : Int) : V (a ++ [z]) = V a + B a.length * z := by
  rw [V_append]; simp [V]

theorem Ok.snoc {a : List Int} (ha : Ok a) {z : Int} (h0 : 0 ≤ z) (h1 : z < 4294967296) : Ok (a ++ [z]) :=
  ha.append (fun y hy => by simp at hy; omega)

theorem radd_step (L a b : List Int) (k : Nat) (c x y : Int) (hl : L.length = k) (hx : x = a.getD k 0) (hy : y = b.getD k 0) (h : V L + B k * c = V (a.take k) + V (b.take k)) :
    V (L ++ [(c + x + y) % 4294967296]) + B (k + 1) * ((c + x + y) / 4294967296) = V (a.take (k + 1)) + V (b.take (k + 1)) := by
  rw [V_snoc, hl, V_take_next a, V_take_next b, ← hx, ← hy]
  generalize hs : c + x + y = s
  have e : B k * (s % 4294967296) + B (k + 1) * (s / 4294967296) = B k * s := by
    simp only [B]
    rw [Int.mul_comm 4294967296 (B k), Int.mul_assoc, ← Int.mul_add]
    congr 1
    omega
  rw [← hs, Int.mul_add, Int.mul_add, hs] at e
  omega

theorem radd_fin (L a b : List Int) (n : Nat) (c : Int) (ha : Ok a) (hb : Ok b) (hL : Ok L) (hl : L.length = n + 1) (hna : a.length ≤ n) (hnb : b.length ≤ n) (hc : 0 ≤ c) (h : V L + B (n + 1) * c = V (a.take (n + 1)) + V (b.take (n + 1))) : V L = V a + V b := by
  rw [List.take_of_length_le (by omega), List.take_of_length_le (by omega)] at h
  have h1 := V_lt ha
  have h2 := V_lt hb
  have h3 := B_mono hna
  have h4 := B_mono hnb
  have h5 := V_nonneg hL
  have h6 := B_pos n
  by_cases hc0 : c = 0
  · subst hc0; omega
  · have : B (n + 1) * 1 ≤ B (n + 1) * c := Int.mul_le_mul_of_nonneg_left (by omega) (Int.le_of_lt (B_pos _))
    simp only [B] at this h
    omega

set_option maxRecDepth 100000 in
set_option maxHeartbeats 4000000 in
theorem radd_any (va vb : Value) (a b : List Int) (w : World) (ha : Sl w va a) (hb : Sl w vb b) (hla : a.length ≤ 100000) (hlb : b.length ≤ 100000) :
    Calls Try.prog 52 #[va, vb] w fun e w' => NumPost w (V a + V b) (a.length + b.length + 1) e w' := by
  obtain ⟨i0, hi, hz0, hz1, hz2⟩ := info_parts Try.infoU32
  obtain ⟨pa, ca, rfl⟩ := ha.shape
  obtain ⟨pb, cb, rfl⟩ := hb.shape
  by_cases hab : b.length ≤ a.length
  · have hab' : (b.length : Int) ≤ (a.length : Int) := by omega
    go_enter Try.func52, Try.ntmps52
    go_wp2_with fail
    go_loopw [5, 6, 7] (fun l c i wr => ∃ (k : Nat) (cc : Int) (L : List Int), k ≤ a.length + 1 ∧ i = .int .i64 k ∧ c = .int .u64 cc ∧ 0 ≤ cc ∧ cc ≤ 1 ∧ L.length = k ∧ Ok L ∧ Owns wr w.heap.size l L ∧ Below w.heap.size w wr ∧
      V L + B k * cc = V (a.take k) + V (b.take k)) (fun _ _ i _ => a.length + 1 - (intOf i).toNat)
    case atStart => exact ⟨0, 0, [], by omega, rfl, rfl, by omega, by omega, rfl, Ok.nil, World.ownsRow_nil _ _ _ _, Below.refl _ _, by simp [V]⟩
    case round =>
      obtain ⟨k, cc, L, hk, rfl, rfl, hc0, hc1, hLl, hLok, hown, hbel, hV⟩ := hrel
      have HV : Hid _ := hV
      clear hV
      have hsa := ha.below hbel
      have hsb := hb.below hbel
      by_cases hkn : k < a.length + 1
      · have hkn' : (k : Int) < (a.length : Int) + 1 := by omega
        have hxa := ha.ok.getD k
        have hxb := hb.ok.getD k
        have HST : Hid (V (L ++ [(cc + a.getD k 0 + b.getD k 0) % 4294967296]) + B (k + 1) * ((cc + a.getD k 0 + b.getD k 0) / 4294967296) = V (a.take (k + 1)) + V (b.take (k + 1))) := radd_step L a b k cc _ _ hLl rfl rfl HV.out
        have CA : Hid (∀ w, Sl w (.slice pa a.length ca) a → Calls Try.prog 69 #[.slice pa a.length ca, .int .i64 (k : Int)] w fun e w' => e = .returned (.int .u64 (a.getD k 0)) ∧ w' = w) := fun w h => at_any _ a (k : Int) k w rfl h (by omega)
        have CB : Hid (∀ w, Sl w (.slice pb b.length cb) b → Calls Try.prog 69 #[.slice pb b.length cb, .int .i64 (k : Int)] w fun e w' => e = .returned (.int .u64 (b.getD k 0)) ∧ w' = w) := fun w h => at_any _ b (k : Int) k w rfl h (by omega)
        generalize a.getD k 0 = x at *
        generalize b.getD k 0 = y at *
        have HL : Hid (L.length = k) := hLl
        clear hLl
        have hLk : L.length ≤ 200001 := by have := HL.out; omega
        go_wp2_with fail
        refine (CA.out _ hsa).mono ?_
        rintro e w' ⟨rfl, hw⟩
        subst hw
        go_wp2_with fail
        refine (CB.out _ hsb).mono ?_
        rintro e w' ⟨rfl, hw⟩
        subst hw
        have hbsz := hbel.size
        go_wp2_with (first | (at_builtin; refine wpList_append_own _ rfl _ _ 22 rfl w.heap.size 53 i0 (.int .u32 0) 1 4 Try.underlying22 hi hz0 hz1 hz2 rfl (by decide) _ _ _ rfl (World.ownsRow.alloc hown _) ⟨_, 0, none⟩ 1 1 [.int .u32 ((cc + x + y) % 4294967296)] rfl rfl (cell_one_new _ _ _) (fun u hu => by simp at hu; subst hu; rfl) (by simp only [maxLen]; omega) (by omega) (by simp; omega) ?_; intro v' w1 hown1 hgr1 _; have hO := owns_snoc (a := L) (z := (cc + x + y) % 4294967296) hown1 rfl rfl; have hB1 := (hbel.alloc hbsz (.cells #[.int .u32 ((cc + x + y) % 4294967296)] 53)).grown hgr1 (by simp; omega) (fun k hk => (World.ownsRow.lt hown k hk).1); clear hown1 hgr1 hown) | fail)
        go_roundw
        case rel => exact ⟨k + 1, _, L ++ [(cc + x + y) % 4294967296], by omega, by go_num, rfl, by omega, by omega, by simp; exact HL.out, hLok.snoc (by omega) (by omega), hO, hB1, HST.out⟩
        case measure => simp [intOf]; omega
      · have hkn' : ¬ (k : Int) < (a.length : Int) + 1 := by omega
        obtain rfl : k = a.length + 1 := by omega
        have HF : Hid (V L = V a + V b) := radd_fin L a b a.length cc ha.ok hb.ok hLok hLl (by omega) (by omega) hc0 HV.out
        have hsl := hown.sl hLok
        clear HV hown
        go_wp2_with fail
        refine (rnorm_any _ L _ hsl (by omega)).mono ?_
        rintro e w' ⟨v5, z5, rfl, s5, m5, x5, l5, b5, g5⟩
        have FIN : Hid (NumPost w (V a + V b) (a.length + b.length + 1) (.returned v5) w') := ⟨v5, z5, rfl, s5, m5, x5.trans HF.out, by omega, hbel.trans (b5.mono hbel.size), fun k hk => Nat.le_trans hbel.size (g5 k hk)⟩
        clear x5
        go_wp2_with fail
        go_ret
        exact FIN.out
  · have hab' : (a.length : Int) ≤ (b.length : Int) := by omega
    have hab2 : (a.length : Int) < (b.length : Int) := by omega
    go_enter Try.func52, Try.ntmps52
    go_wp2_with fail
    go_loopw [5, 6, 7] (fun l c i wr => ∃ (k : Nat) (cc : Int) (L : List Int), k ≤ b.length + 1 ∧ i = .int .i64 k ∧ c = .int .u64 cc ∧ 0 ≤ cc ∧ cc ≤ 1 ∧ L.length = k ∧ Ok L ∧ Owns wr w.heap.size l L ∧ Below w.heap.size w wr ∧
      V L + B k * cc = V (a.take k) + V (b.take k)) (fun _ _ i _ => b.length + 1 - (intOf i).toNat)
    case atStart => exact ⟨0, 0, [], by omega, rfl, rfl, by omega, by omega, rfl, Ok.nil, World.ownsRow_nil _ _ _ _, Below.refl _ _, by simp [V]⟩
    case round =>
      obtain ⟨k, cc, L, hk, rfl, rfl, hc0, hc1, hLl, hLok, hown, hbel, hV⟩ := hrel
      have HV : Hid _ := hV
      clear hV
      have hsa := ha.below hbel
      have hsb := hb.below hbel
      by_cases hkn : k < b.length + 1
      · have hkn' : (k : Int) < (b.length : Int) + 1 := by omega
        have hxa := ha.ok.getD k
        have hxb := hb.ok.getD k
        have HST : Hid (V (L ++ [(cc + a.getD k 0 + b.getD k 0) % 4294967296]) + B (k + 1) * ((cc + a.getD k 0 + b.getD k 0) / 4294967296) = V (a.take (k + 1)) + V (b.take (k + 1))) := radd_step L a b k cc _ _ hLl rfl rfl HV.out
        have CA : Hid (∀ w, Sl w (.slice pa a.length ca) a → Calls Try.prog 69 #[.slice pa a.length ca, .int .i64 (k : Int)] w fun e w' => e = .returned (.int .u64 (a.getD k 0)) ∧ w' = w) := fun w h => at_any _ a (k : Int) k w rfl h (by omega)
        have CB : Hid (∀ w, Sl w (.slice pb b.length cb) b → Calls Try.prog 69 #[.slice pb b.length cb, .int .i64 (k : Int)] w fun e w' => e = .returned (.int .u64 (b.getD k 0)) ∧ w' = w) := fun w h => at_any _ b (k : Int) k w rfl h (by omega)
        generalize a.getD k 0 = x at *
        generalize b.getD k 0 = y at *
        have HL : Hid (L.length = k) := hLl
        clear hLl
        have hLk : L.length ≤ 200001 := by have := HL.out; omega
        go_wp2_with fail
        refine (CA.out _ hsa).mono ?_
        rintro e w' ⟨rfl, hw⟩
        subst hw
        go_wp2_with fail
        refine (CB.out _ hsb).mono ?_
        rintro e w' ⟨rfl, hw⟩
        subst hw
        have hbsz := hbel.size
        go_wp2_with (first | (at_builtin; refine wpList_append_own _ rfl _ _ 22 rfl w.heap.size 53 i0 (.int .u32 0) 1 4 Try.underlying22 hi hz0 hz1 hz2 rfl (by decide) _ _ _ rfl (World.ownsRow.alloc hown _) ⟨_, 0, none⟩ 1 1 [.int .u32 ((cc + x + y) % 4294967296)] rfl rfl (cell_one_new _ _ _) (fun u hu => by simp at hu; subst hu; rfl) (by simp only [maxLen]; omega) (by omega) (by simp; omega) ?_; intro v' w1 hown1 hgr1 _; have hO := owns_snoc (a := L) (z := (cc + x + y) % 4294967296) hown1 rfl rfl; have hB1 := (hbel.alloc hbsz (.cells #[.int .u32 ((cc + x + y) % 4294967296)] 53)).grown hgr1 (by simp; omega) (fun k hk => (World.ownsRow.lt hown k hk).1); clear hown1 hgr1 hown) | fail)
        go_roundw
        case rel => exact ⟨k + 1, _, L ++ [(cc + x + y) % 4294967296], by omega, by go_num, rfl, by omega, by omega, by simp; exact HL.out, hLok.snoc (by omega) (by omega), hO, hB1, HST.out⟩
        case measure => simp [intOf]; omega
      · have hkn' : ¬ (k : Int) < (b.length : Int) + 1 := by omega
        obtain rfl : k = b.length + 1 := by omega
        have HF : Hid (V L = V a + V b) := radd_fin L a b b.length cc ha.ok hb.ok hLok hLl (by omega) (by omega) hc0 HV.out
        have hsl := hown.sl hLok
        clear HV hown
        go_wp2_with fail
        refine (rnorm_any _ L _ hsl (by omega)).mono ?_
        rintro e w' ⟨v5, z5, rfl, s5, m5, x5, l5, b5, g5⟩
        have FIN : Hid (NumPost w (V a + V b) (a.length + b.length + 1) (.returned v5) w') := ⟨v5, z5, rfl, s5, m5, x5.trans HF.out, by omega, hbel.trans (b5.mono hbel.size), fun k hk => Nat.le_trans hbel.size (g5 k hk)⟩
        clear x5
        go_wp2_with fail
        go_ret
        exact FIN.out
end Go.Proofs.Ytmhcgdigccaogaa

/-
  The document's own answers of layer 1 (relictref01): Sub.
-/
namespace Go.Proofs.Ytmhcgdigccaogaa
open Go.RowKit
set_option linter.unusedVariables false

theorem rsub_step (L a b : List Int) (k : Nat) (c x y z o : Int) (hl : L.length = k) (hx : x = a.getD k 0) (hy : y = b.getD k 0) (h : V L + V (b.take k) = V (a.take k) + B k * c) (hz : z + y + c = x + 4294967296 * o) :
    V (L ++ [z]) + V (b.take (k + 1)) = V (a.take (k + 1)) + B (k + 1) * o := by
  rw [V_snoc, hl, V_take_next a, V_take_next b, ← hx, ← hy]
  have e := congrArg (B k * ·) hz
  simp only [Int.mul_add] at e
  simp only [B]
  rw [← Int.mul_assoc (B k) 4294967296 o, Int.mul_comm (B k) 4294967296] at e
  omega

theorem wrap_sub2 (x y c : Int) (hx0 : 0 ≤ x) (hx1 : x < 4294967296) (hy0 : 0 ≤ y) (hy1 : y < 4294967296) (hc0 : 0 ≤ c) (hc1 : c ≤ 1) :
    ∃ D, IntKind.u64.wrap (IntKind.u64.wrap (x - y) - c) = D ∧ 0 ≤ D ∧ D ≤ 18446744073709551615 ∧ D % 4294967296 + y + c = x + 4294967296 * (D / 9223372036854775808) ∧ D / 9223372036854775808 ≤ 1 := by
  refine ⟨_, rfl, ?_⟩
  rw [IntKind.wrap_u64, IntKind.wrap_u64]
  omega

theorem rsub_fin (L a b : List Int) (c : Int) (ha : Ok a) (hb : Ok b) (hL : Ok L) (hl : L.length = a.length) (hc : 0 ≤ c) (hle : V b ≤ V a) (h : V L + V (b.take a.length) = V (a.take a.length) + B a.length * c) : V L = V a - V b := by
  rw [List.take_length] at h
  have hb' : V (b.take a.length) = V b := by
    rcases Nat.lt_or_ge a.length b.length with h1 | h1
    · have s := V_split b a.length (by omega)
      have h2 := V_nonneg (hb.drop a.length)
      have h3 := V_nonneg (hb.take a.length)
      have h4 := V_lt ha
      rcases (show V (b.drop a.length) = 0 ∨ 1 ≤ V (b.drop a.length) by omega) with h5 | h5
      · rw [h5] at s; omega
      · have := Int.mul_le_mul_of_nonneg_left h5 (Int.le_of_lt (B_pos a.length))
        omega
    · rw [List.take_of_length_le h1]
  rw [hb'] at h
  have h1 := V_lt hL
  rw [hl] at h1
  have h2 := V_nonneg hb
  by_cases hc0 : c = 0
  · subst hc0; omega
  · have : B a.length * 1 ≤ B a.length * c := Int.mul_le_mul_of_nonneg_left (by omega) (Int.le_of_lt (B_pos _))
    omega

set_option maxRecDepth 100000 in
set_option maxHeartbeats 4000000 in
theorem rsub_any (va vb : Value) (a b : List Int) (w : World) (ha : Sl w va a) (hb : Sl w vb b) (hla : a.length ≤ 100000) (hlb : b.length ≤ 100000) :
    Calls Try.prog 67 #[va, vb] w fun e w' => NumPost w (subV (V a) (V b)) a.length e w' := by
  obtain ⟨i0, hi, hz0, hz1, hz2⟩ := info_parts Try.infoU32
  obtain ⟨pa, ca, rfl⟩ := ha.shape
  obtain ⟨pb, cb, rfl⟩ := hb.shape
  go_enter Try.func67, Try.ntmps67
  go_wp2_with fail
  refine (rcmp_any _ _ a b _ ha hb (by omega) (by omega)).mono ?_
  rintro e w' ⟨rfl, hw⟩
  have hw' := hw.symm
  subst hw'
  clear hw
  by_cases hlt : V a < V b
  · have HX : Hid (subV (V a) (V b) = 0) := subV_le (by omega)
    rw [sg_lt hlt]
    clear hlt
    go_wp2_with fail
    go_ret
    exact ⟨_, [], rfl, Sl.nil _, Nm_nil, HX.out.symm, Nat.zero_le _, Below.refl _ _, fun k hk => by simp [Value.ownBlock] at hk⟩
  · have HX : Hid (subV (V a) (V b) = V a - V b) := subV_ge (by omega)
    have HLE : Hid (V b ≤ V a) := by show V b ≤ V a; omega
    have hsg : 0 ≤ sg (V a) (V b) := by
      rcases Int.lt_trichotomy (V a) (V b) with h | h | h
      · exact absurd h hlt
      · rw [h, sg_self]; omega
      · rw [sg_gt h]; omega
    generalize sg (V a) (V b) = s at *
    clear hlt
    go_wp2_with fail
    go_loopw [5, 6, 7] (fun l c i wr => ∃ (k : Nat) (cc : Int) (L : List Int), k ≤ a.length ∧ i = .int .i64 k ∧ c = .int .u64 cc ∧ 0 ≤ cc ∧ cc ≤ 1 ∧ L.length = k ∧ Ok L ∧ Owns wr w.heap.size l L ∧ Below w.heap.size w wr ∧
      V L + V (b.take k) = V (a.take k) + B k * cc) (fun _ _ i _ => a.length - (intOf i).toNat)
    case atStart => exact ⟨0, 0, [], by omega, rfl, rfl, by omega, by omega, rfl, Ok.nil, World.ownsRow_nil _ _ _ _, Below.refl _ _, by simp [V]⟩
    case round =>
      obtain ⟨k, cc, L, hk, rfl, rfl, hc0, hc1, hLl, hLok, hown, hbel, hV⟩ := hrel
      have HV : Hid _ := hV
      clear hV
      have hsa := ha.below hbel
      have hsb := hb.below hbel
      by_cases hkn : k < a.length
      · have hxa := ha.ok.getD k
        have hxb := hb.ok.getD k
        have HST : Hid (∀ z o, z + b.getD k 0 + cc = a.getD k 0 + 4294967296 * o → V (L ++ [z]) + V (b.take (k + 1)) = V (a.take (k + 1)) + B (k + 1) * o) := fun z o h => rsub_step L a b k cc _ _ z o hLl rfl rfl HV.out h
        have CA : Hid (∀ w, Sl w (.slice pa a.length ca) a → Calls Try.prog 69 #[.slice pa a.length ca, .int .i64 (k : Int)] w fun e w' => e = .returned (.int .u64 (a.getD k 0)) ∧ w' = w) := fun w h => at_any _ a (k : Int) k w rfl h (by omega)
        have CB : Hid (∀ w, Sl w (.slice pb b.length cb) b → Calls Try.prog 69 #[.slice pb b.length cb, .int .i64 (k : Int)] w fun e w' => e = .returned (.int .u64 (b.getD k 0)) ∧ w' = w) := fun w h => at_any _ b (k : Int) k w rfl h (by omega)
        generalize a.getD k 0 = x at *
        generalize b.getD k 0 = y at *
        have HL : Hid (L.length = k) := hLl
        clear hLl
        have hLk : L.length ≤ 200001 := by have := HL.out; omega
        go_wp2_with fail
        refine (CA.out _ hsa).mono ?_
        rintro e w' ⟨rfl, hw⟩
        subst hw
        go_wp2_with fail
        refine (CB.out _ hsb).mono ?_
        rintro e w' ⟨rfl, hw⟩
        subst hw
        have hbsz := hbel.size
        obtain ⟨D, hD, hD0, hD1, hD2, hD3⟩ := wrap_sub2 x y cc hxa.1 hxa.2 hxb.1 hxb.2 hc0 hc1
        have HR : Hid _ := HST.out _ _ hD2
        clear hD2 HST
        go_wp2_with (first | (at_builtin; refine wpList_append_own _ rfl _ _ 22 rfl w.heap.size 53 i0 (.int .u32 0) 1 4 Try.underlying22 hi hz0 hz1 hz2 rfl (by decide) _ _ _ rfl (World.ownsRow.alloc hown _) ⟨_, 0, none⟩ 1 1 [.int .u32 (D % 4294967296)] rfl rfl (cell_one_new _ _ _) (fun u hu => by simp at hu; subst hu; rfl) (by simp only [maxLen]; omega) (by omega) (by simp; omega) ?_; intro v' w1 hown1 hgr1 _; have hO := owns_snoc (a := L) (z := D % 4294967296) hown1 rfl rfl; have hB1 := (hbel.alloc hbsz (.cells #[.int .u32 (D % 4294967296)] 53)).grown hgr1 (by simp; omega) (fun k hk => (World.ownsRow.lt hown k hk).1); clear hown1 hgr1 hown) | fail)
        go_roundw
        case rel => exact ⟨k + 1, _, L ++ [D % 4294967296], by omega, by go_num, rfl, by omega, by omega, by simp; exact HL.out, hLok.snoc (by omega) (by omega), hO, hB1, HR.out⟩
        case measure => simp [intOf]; omega
      · obtain rfl : k = a.length := by omega
        have HF : Hid (V L = subV (V a) (V b)) := (rsub_fin L a b cc ha.ok hb.ok hLok hLl hc0 HLE.out HV.out).trans HX.out.symm
        have hsl := hown.sl hLok
        clear HV hown
        go_wp2_with fail
        refine (rnorm_any _ L _ hsl (by omega)).mono ?_
        rintro e w5 ⟨v5, z5, rfl, s5, m5, x5, l5, b5, g5⟩
        have FIN : Hid (NumPost w (subV (V a) (V b)) a.length (.returned v5) w5) := ⟨v5, z5, rfl, s5, m5, x5.trans HF.out, by omega, hbel.trans (b5.mono hbel.size), fun k hk => Nat.le_trans hbel.size (g5 k hk)⟩
        clear x5
        go_wp2_with fail
        go_ret
        exact FIN.out
end Go.Proofs.Ytmhcgdigccaogaa

/-
  The document's own answers of layer 1 (relictref01): Mul.
-/
namespace Go.Proofs.Ytmhcgdigccaogaa
open Go.RowKit
set_option linter.unusedVariables false

set_option maxRecDepth 100000 in
set_option maxHeartbeats 4000000 in
theorem rmul_any (va vb : Value) (a b : List Int) (w : World) (ha : Sl w va a) (hb : Sl w vb b) (hla : a.length ≤ 100000) (hlb : b.length ≤ 100000) :
    Calls Try.prog 39 #[va, vb] w fun e w' => NumPost w (V a * V b) (a.length + b.length + 1) e w' := by
  obtain ⟨pa, ca, rfl⟩ := ha.shape
  obtain ⟨pb, cb, rfl⟩ := hb.shape
  go_enter Try.func39, Try.ntmps39
  go_wp2_with (first | (at_make; refine wpList_make_u32 rfl _ _ rfl _ _ (a.length + b.length + 1) rfl rfl (by omega) (by omega) (by omega) ?_; intro w1 hrow1 hbel1) | fail)
  go_loopw [6] (fun s wr => ∃ (i : Nat) (Z : List Int), i ≤ a.length ∧ s = .int .i64 i ∧ Z.length = a.length + b.length + 1 ∧ Ok Z ∧ Row wr w.heap.size Z ∧ Below w.heap.size w wr ∧
      V Z = V (a.take i) * V b ∧ (∀ j, i + b.length ≤ j → Z.getD j 0 = 0)) (fun s _ => a.length - (intOf s).toNat)
  case atStart => exact ⟨0, zer (a.length + b.length + 1), by omega, rfl, zer_len _, zer_ok _, hrow1, hbel1, by simp [zer_V, V], fun j _ => zer_at _ _⟩
  case round =>
    obtain ⟨i, Z, hk, rfl, hZl, hZok, hrow, hbel, hV, hz⟩ := hrel
    have HV : Hid _ := hV
    have HZ : Hid _ := hz
    clear hV hz hrow1 hbel1
    by_cases hil : i < a.length
    · have hxa := ha.ok.getD i
      have CA : Hid (∀ w, Sl w (.slice pa a.length ca) a → Calls Try.prog 69 #[.slice pa a.length ca, .int .i64 (i : Int)] w fun e w' => e = .returned (.int .u64 (a.getD i 0)) ∧ w' = w) := fun w h => at_any _ a (i : Int) i w rfl h (by omega)
      obtain ⟨t, ht⟩ : ∃ t, t = a.getD i 0 := ⟨_, rfl⟩
      rw [← ht] at hxa CA
      have HT : Hid _ := ht
      clear ht
      obtain ⟨X, hX⟩ : ∃ X, X = (Z.drop i).take (b.length + 1) := ⟨_, rfl⟩
      obtain ⟨P, hP⟩ : ∃ P, P = Z.take i := ⟨_, rfl⟩
      obtain ⟨S, hS⟩ : ∃ S, S = Z.drop (i + (b.length + 1)) := ⟨_, rfl⟩
      have hPl : P.length = i := by rw [hP]; simp; omega
      have hXl : X.length = b.length + 1 := by rw [hX]; simp; omega
      have hXok : Ok X := by rw [hX]; exact (hZok.drop _).take _
      have hrow0 : Row wr w.heap.size (P ++ (X ++ S)) := by rw [hP, hX, hS, ← cut3]; exact hrow
      have HX : Hid _ := hX
      have HP : Hid _ := hP
      have HS : Hid _ := hS
      have HPL : Hid _ := hPl
      have HXL : Hid _ := hXl
      clear hX hP hS hPl hXl hrow
      go_wp2_with fail
      go_loopw [7, 8] (fun c s wy => ∃ (k : Nat) (cc : Int) (X' : List Int), k ≤ b.length + 1 ∧ s = .int .i64 k ∧ c = .int .u64 cc ∧ 0 ≤ cc ∧ cc < 4294967296 ∧ Hid (X'.length = b.length + 1) ∧ Ok X' ∧ Row wy w.heap.size (P ++ (X' ++ S)) ∧ Below w.heap.size w wy ∧
        Hid (V (X'.take k) + B k * cc = V (X.take k) + V (b.take k) * t) ∧ Hid (∀ j, k ≤ j → X'.getD j 0 = X.getD j 0)) (fun _ s _ => b.length + 1 - (intOf s).toNat)
      case atStart => exact ⟨0, 0, X, by omega, rfl, rfl, by omega, by omega, HXL, hXok, hrow0, hbel, by show _ = _; simp [V], fun _ _ => rfl⟩
      case round =>
        obtain ⟨k, cc, X', hk2, rfl, rfl, hc0, hc1, HXL', hok', hrow2, hbel2, HV2, HSM⟩ := hrel
        clear hrow0 hbel
        by_cases hkl : k ≤ b.length
        · have hkl' : (k : Int) ≤ (b.length : Int) := by omega
          have hcell := hrow2.cellIn k (by rw [HXL'.out]; omega)
          have hfr : wr.frozen? ⟨w.heap.size, P.length + k, none⟩ = false := hrow2.frozen _
          rw [HPL.out] at hcell hfr
          have hxx := hok'.getD k
          have hbb := hb.ok.getD k
          have HXX : Hid (X'.getD k 0 = X.getD k 0) := HSM.out k (Nat.le_refl _)
          have hp := prod_bd hxa.1 hxa.2 hbb.1 hbb.2
          have CB : Hid (∀ w, Sl w (.slice pb b.length cb) b → Calls Try.prog 69 #[.slice pb b.length cb, .int .i64 (k : Int)] w fun e w' => e = .returned (.int .u64 (b.getD k 0)) ∧ w' = w) := fun w h => at_any _ b (k : Int) k w rfl h (by omega)
          have HST : Hid (V ((X'.set k ((cc + b.getD k 0 * t + X.getD k 0) % 4294967296)).take (k + 1)) + B (k + 1) * ((cc + b.getD k 0 * t + X.getD k 0) / 4294967296) = V (X.take (k + 1)) + V (b.take (k + 1)) * t) := addT_step X' X b k cc t _ _ (by rw [HXL'.out]; omega) rfl rfl HV2.out
          rw [← HXX.out] at HST
          generalize X'.getD k 0 = x at *
          generalize b.getD k 0 = y at *
          have hsa := ha.below hbel2
          have hsb := hb.below hbel2
          have hik : (i : Int) + (k : Int) < (a.length : Int) + (b.length : Int) + 1 := by omega
          go_wp2_with fail
          go_quiet (first | (go_at_call_of 69 (Value.slice pa a.length ca); exact Calls.quiet_of_same (CA.out _ (hsa.below (below_drewN (Below.refl _ _) _)))) | (go_at_call_of 69 (Value.slice pb b.length cb); exact Calls.quiet_of_same (CB.out _ (hsb.below (below_drewN (Below.refl _ _) _)))))
          go_wp2_with fail
          have e1 : cc + y * t + x = cc + x + t * y := by rw [Int.mul_comm y t]; omega
          rw [e1] at HST
          have hrow3 : Row (wr.drewN nq) w.heap.size (P ++ (X' ++ S)) := hrow2
          have hset := hrow3.setIn k (by rw [HXL'.out]; omega) ((cc + x + t * y) % 4294967296)
          rw [HPL.out] at hset
          go_roundw
          case rel => exact ⟨k + 1, _, X'.set k ((cc + x + t * y) % 4294967296), by omega, by go_num, rfl, by omega, by omega, by show _ = _; simpa using HXL'.out, hok'.set _ (by omega) (by omega), hset, (below_drewN hbel2 _).setCell (Nat.le_refl _) _, HST, set_same _ _ _ _ HSM.out⟩
          case measure => simp [intOf]; omega
        · have hkl' : ¬ (k : Int) ≤ (b.length : Int) := by omega
          obtain rfl : k = b.length + 1 := by omega
          have hst := mul_step Z b a X' i t cc hb.ok hZok hok' (by omega) HV.out HZ.out HT.out hxa.1 hxa.2 (by rw [← HX.out, HXL'.out, HXL.out]) hc0 (by
            have h := HV2.out
            rw [List.take_of_length_le (l := X') (by rw [HXL'.out]; omega), List.take_of_length_le (l := X) (by rw [HXL.out]; omega)] at h
            rw [← HX.out, HXL.out]; exact h)
          rw [← HP.out, ← HS.out] at hst
          have hok2 : Ok (P ++ (X' ++ S)) := by rw [HP.out, HS.out]; exact (hZok.take _).append (hok'.append (hZok.drop _))
          generalize P ++ (X' ++ S) = Z' at *
          obtain ⟨t1, t2, t3⟩ := hst
          have T1 : Hid _ := t1
          have T2 : Hid _ := t2
          clear t1 t2
          go_wp2_with fail
          go_roundw
          case rel => exact ⟨i + 1, Z', by omega, by go_num, by omega, hok2, hrow2, hbel2, T1.out, T2.out⟩
          case measure => simp [intOf]; omega
    · obtain rfl : i = a.length := by omega
      have HF : Hid (V Z = V a * V b) := by
        show V Z = V a * V b
        rw [HV.out, List.take_length]
      have hsl := hrow.all hZok (by omega)
      rw [hZl] at hsl
      clear hrow HV HZ
      go_wp2_with fail
      refine (rnorm_any _ Z _ hsl (by omega)).mono ?_
      rintro e w5 ⟨v5, z5, rfl, s5, m5, x5, l5, b5, g5⟩
      have FIN : Hid (NumPost w (V a * V b) (a.length + b.length + 1) (.returned v5) w5) := ⟨v5, z5, rfl, s5, m5, x5.trans HF.out, by omega, hbel.trans (b5.mono hbel.size), fun k hk => Nat.le_trans hbel.size (g5 k hk)⟩
      clear x5
      go_wp2_with fail
      go_ret
      exact FIN.out
end Go.Proofs.Ytmhcgdigccaogaa

/-
  The document's own answers of layer 1 (relictref01): Len.
-/
namespace Go.Proofs.Ytmhcgdigccaogaa
open Go.RowKit
set_option linter.unusedVariables false

theorem and_one (y : Int) (h0 : 0 ≤ y) (h1 : y < 4294967296) : bits .and .u32 y 1 = y % 2 := by
  rw [u32_and y 1 h0 h1 (by decide) (by decide)]
  obtain ⟨Y, rfl⟩ := Int.eq_ofNat_of_zero_le h0
  simp [Nat.and_one_is_mod]

theorem shr_bd (x : Int) (p : Nat) (h0 : 0 ≤ x) (h1 : x < 4294967296) : 0 ≤ x / T p ∧ x / T p < 4294967296 :=
  ⟨Int.ediv_nonneg h0 (Int.le_of_lt (T_pos p)), Int.lt_of_le_of_lt (Int.ediv_le_self _ h0) h1⟩

/-- A bit of a number is a bit of its limb. -/
theorem bit_V (A : List Int) (hA : Ok A) (q p : Nat) (hp : p < 32) : (V A / T (32 * q + p)) % 2 = (A.getD q 0 / T p) % 2 := by
  by_cases hq : q < A.length
  · have h5 := V_split A q (by omega)
    have h6 := V_lt (hA.take q)
    rw [show (A.take q).length = q by simp; omega] at h6
    have h7 : V A / B q = V (A.drop q) := by
      rw [h5, Int.mul_comm, Int.add_mul_ediv_right _ _ (by have := B_pos q; omega), Int.ediv_eq_zero_of_lt (V_nonneg (hA.take q)) h6]; omega
    rw [T_add, T_32, ← Int.ediv_ediv_of_nonneg (Int.le_of_lt (B_pos q)), h7, V_drop A q hq]
    have e : 4294967296 * V (A.drop (q + 1)) = (2 * (T (31 - p) * V (A.drop (q + 1)))) * T p := by
      rw [← T_split (show p ≤ 32 by omega), show 32 - p = (31 - p) + 1 by omega]
      simp only [T]
      rw [Int.mul_assoc, Int.mul_comm (T p), ← Int.mul_assoc, Int.mul_assoc 2]
    rw [e, Int.add_mul_ediv_right _ _ (by have := T_pos p; omega)]
    omega
  · rw [lower_none A q p hA (by omega)]
    have : A.getD q 0 = 0 := by simp [List.getD, hq]
    rw [this, Int.zero_ediv]

theorem half_or (x : Int) (m : Nat) (h0 : 0 ≤ x) (h1 : x < T (m + 1)) : x / T m = 0 ∨ x / T m = 1 := by
  have hT := T_pos m
  have a1 := Int.ediv_nonneg h0 (Int.le_of_lt hT)
  have a2 : x / T m < 2 := Int.ediv_lt_of_lt_mul hT (by simpa [T] using h1)
  omega

def LenPost2 (w : World) (x : Int) (l : Nat) (e : Ending) (w' : World) : Prop := ∃ n : Nat, e = .returned (.int .i64 n) ∧ Below w.heap.size w w' ∧ IsLen x n ∧ n ≤ 32 * l

set_option maxRecDepth 100000 in
set_option maxHeartbeats 2000000 in
theorem rlen_any (va : Value) (a : List Int) (w : World) (ha : Sl w va a) (hla : a.length ≤ 100000) :
    Calls Try.prog 49 #[va] w fun e w' => LenPost2 w (V a) a.length e w' := by
  obtain ⟨pa, ca, rfl⟩ := ha.shape
  go_enter Try.func49, Try.ntmps49
  go_wp2_with fail
  refine (rnorm_any _ a _ ha (by omega)).mono ?_
  rintro e w1 ⟨v1, A, rfl, s1, m1, x1, l1, b1, -⟩
  have X1 : Hid _ := x1
  obtain ⟨p1, c1, rfl⟩ := s1.shape
  have hstart : Hid (V A < T (32 * A.length)) := by
    show V A < T (32 * A.length)
    rw [T_32]; exact V_lt s1.ok
  clear x1
  go_wp2_with fail
  go_loop [4] (fun s => ∃ k : Nat, k ≤ 32 * A.length ∧ s = .int .i64 k ∧ Hid (V A < T k)) (fun s => (intOf s).toNat)
  case atStart => exact ⟨32 * A.length, Nat.le_refl _, by go_num, hstart⟩
  case round =>
    obtain ⟨k, hk, rfl, HK⟩ := hrel
    cases k with
    | zero =>
      have HF : Hid (V a = 0) := by
        show V a = 0
        have h1 := HK.out
        have h2 := V_nonneg s1.ok
        simp only [T] at h1
        rw [← X1.out]; omega
      go_wp2_with fail
      go_ret
      exact ⟨0, rfl, b1, .inl ⟨HF.out, rfl⟩, Nat.zero_le _⟩
    | succ m =>
      obtain ⟨q, hq⟩ : ∃ q, q = m / 32 := ⟨_, rfl⟩
      obtain ⟨p, hp⟩ : ∃ p, p = m % 32 := ⟨_, rfl⟩
      have hq' : (m : Int) / 32 = (q : Int) := by omega
      have hp' : (m : Int) % 32 = (p : Int) := by omega
      have hp32 : p < 32 := by omega
      have HM : Hid (m = 32 * q + p) := by show m = 32 * q + p; omega
      have hqA : q < A.length := by omega
      clear hq hp
      obtain ⟨b, off, rfl, hc⟩ := s1.at q hqA
      have hx := s1.ok.getD q
      have HB := bit_V A s1.ok q p hp32
      rw [← HM.out] at HB
      have HB' : Hid _ := HB
      clear HB
      generalize A.getD q 0 = x at *
      have hsb := shr_bd x p hx.1 hx.2
      have hand := and_one (x / T p) hsb.1 hsb.2
      obtain ⟨r, hr⟩ : ∃ r, r = x / T p % 2 := ⟨_, rfl⟩
      rw [← hr] at hand HB'
      rw [T_pow] at hand hsb
      have hr2 : r = 0 ∨ r = 1 := by omega
      clear hr
      have hh := half_or (V A) m (V_nonneg s1.ok) HK.out
      have HH : Hid _ := hh
      have hqA' : (q : Int) < (A.length : Int) := by omega
      clear hh
      rcases hr2 with rfl | rfl
      · have HN : Hid (V A < T m) := by
          show V A < T m
          have h1 := HB'.out
          rcases HH.out with h2 | h2
          · have e := Int.lt_ediv_add_one_mul_self (V A) (T_pos m)
            rw [h2] at e; omega
          · rw [h2] at h1; omega
        go_wp2_with fail
        go_round
        case rel => exact ⟨m, by omega, by go_num, HN⟩
        case measure => simp [intOf]
      · have HN : Hid (IsLen (V a) (m + 1)) := by
          have h1 := HB'.out
          rw [← X1.out]
          refine .inr ⟨by omega, ?_, HK.out⟩
          rw [show m + 1 - 1 = m by omega]
          rcases HH.out with h2 | h2
          · rw [h2] at h1; omega
          · have e := Int.ediv_mul_le (V A) (show T m ≠ 0 by have := T_pos m; omega)
            rw [h2] at e; omega
        go_wp2_with fail
        go_ret
        exact ⟨m + 1, by go_num, b1, HN.out, by omega⟩

theorem or_lowR (p : Nat) (hp : p ≤ 32) (x y : Int) (hx0 : 0 ≤ x) (hx1 : x < 4294967296) (hy0 : 0 ≤ y) (hy1 : y < T p) : bits .or .u32 y (x * 2 ^ p % 4294967296) = y + x * T p % 4294967296 := by
  obtain ⟨X, rfl⟩ := Int.eq_ofNat_of_zero_le hx0
  obtain ⟨Y, rfl⟩ := Int.eq_ofNat_of_zero_le hy0
  rw [T_nat] at hy1
  have hy2 : Y < 2 ^ p := by omega
  have hp2 : (2 : Nat) ^ p ≤ 2 ^ 32 := Nat.pow_le_pow_right (by decide) hp
  have hp3 : (2 : Nat) ^ 32 = 4294967296 := by decide
  have e1 : ((X : Int) * 2 ^ p % 4294967296) = ((X * 2 ^ p % 4294967296 : Nat) : Int) := by simp
  have h1 : X * 2 ^ p % 4294967296 < 4294967296 := Nat.mod_lt _ (by decide)
  rw [e1, u32_or_nat _ _ (by omega) h1, mod_mul p hp, Nat.or_comm, or_nat p _ _ hy2, ← mod_mul p hp, T_nat]
  simp
  omega

theorem or_zeroR (y : Int) (h0 : 0 ≤ y) (h1 : y < 4294967296) : bits .or .u32 0 y = y := by
  rw [u32_or 0 y (by decide) (by decide) h0 h1]
  obtain ⟨Y, rfl⟩ := Int.eq_ofNat_of_zero_le h0
  simp

end Go.Proofs.Ytmhcgdigccaogaa

/-
  The document's own answers of layer 1 (relictref01): Shl.
-/
namespace Go.Proofs.Ytmhcgdigccaogaa
open Go.RowKit
set_option linter.unusedVariables false

theorem low_bd (p : Nat) (hp : p ≤ 32) (x y : Int) (hx0 : 0 ≤ x) (hy0 : 0 ≤ y) (hy1 : y < T p) : 0 ≤ y + x * T p % 4294967296 ∧ y + x * T p % 4294967296 < 4294967296 := by
  obtain ⟨X, rfl⟩ := Int.eq_ofNat_of_zero_le hx0
  have h2 := mod_mul p hp X
  have h3 : X % 2 ^ (32 - p) + 1 ≤ 2 ^ (32 - p) := Nat.mod_lt _ (Nat.two_pow_pos _)
  have h4 := Nat.mul_le_mul_left (2 ^ p) h3
  have e : 2 ^ p * 2 ^ (32 - p) = (4294967296 : Nat) := by rw [← Nat.pow_add, show p + (32 - p) = 32 by omega]
  rw [e, Nat.mul_add, Nat.mul_one, ← h2] at h4
  rw [T_nat] at hy1 ⊢
  have k1 : (X : Int) * ((2 ^ p : Nat) : Int) % 4294967296 = ((X * 2 ^ p % 4294967296 : Nat) : Int) := by simp
  rw [k1]
  omega

theorem high_bd (p : Nat) (x : Int) (hx0 : 0 ≤ x) (hx1 : x < 4294967296) : 0 ≤ x * T p / 4294967296 ∧ x * T p / 4294967296 < T p := by
  have h1 := Int.mul_nonneg hx0 (Int.le_of_lt (T_pos p))
  refine ⟨Int.ediv_nonneg h1 (by decide), Int.ediv_lt_of_lt_mul (by decide) ?_⟩
  rw [Int.mul_comm (T p)]
  exact Int.mul_lt_mul_of_pos_right hx1 (T_pos p)

theorem rshl_step (Z a : List Int) (i q p n : Nat) (x y : Int) (hi : i + q + 1 < Z.length) (hx : x = a.getD i 0) (hy : y = Z.getD (i + q) 0) (h0 : Z.getD (i + q + 1) 0 = 0) (hn : n = 32 * q + p) (h : V Z = V (a.take i) * T n) :
    V ((Z.set (i + q) (y + x * T p % 4294967296)).set (i + q + 1) (x * T p / 4294967296)) = V (a.take (i + 1)) * T n := by
  have e1 : (Z.set (i + q) (y + x * T p % 4294967296)).getD (i + q + 1) 0 = 0 := by
    refine Eq.trans ?_ h0
    simp only [List.getD_eq_getElem?_getD]
    rw [List.getElem?_set_ne (by omega)]
  rw [V_set _ _ _ (by simp; omega), V_set _ _ _ (by omega), e1, ← hy, V_take_next, ← hx, h, Int.add_mul, hn, T_add, T_32]
  have e2 : y + x * T p % 4294967296 - y = x * T p % 4294967296 := by omega
  rw [e2, Int.sub_zero]
  have e3 : B (i + q + 1) * (x * T p / 4294967296) = B (i + q) * (4294967296 * (x * T p / 4294967296)) := by
    simp only [B]; rw [Int.mul_comm 4294967296 (B (i + q)), Int.mul_assoc]
  rw [e3, Int.add_assoc, ← Int.mul_add]
  have e4 : x * T p % 4294967296 + 4294967296 * (x * T p / 4294967296) = x * T p := by omega
  rw [e4, B_add]
  congr 1
  rw [Int.mul_assoc, Int.mul_assoc]
  congr 1
  rw [Int.mul_left_comm]

set_option maxRecDepth 100000 in
set_option maxHeartbeats 4000000 in
theorem rshl_core (va : Value) (a : List Int) (n q p : Nat) (w : World) (ha : Sl w va a) (hla : a.length ≤ 100000) (hn : n = 32 * q + p) (hp : p < 32) (hq : q ≤ 128) (N : Int) (hN : upN N = n) :
    Calls Try.prog 70 #[va, .int .i64 N] w fun e w' => NumPost w (V a * T n) (a.length + 129) e w' := by
  obtain ⟨pa, ca, rfl⟩ := ha.shape
  have h1 : (n : Int) / 32 = (q : Int) := by omega
  have h2 : (n : Int) % 32 = (p : Int) := by omega
  have HNN : Hid _ := hn
  have hn0 : n ≤ 4127 := by omega
  obtain ⟨M, hM⟩ : ∃ M, (if N < 0 then 0 else N) = M := ⟨_, rfl⟩
  have hmin : (if 4096 < M then 4096 else M) = (n : Int) := by
    rw [← hM, ← hN]
    unfold upN
    split <;> split <;> omega
  clear hn hN
  go_enter Try.func70, Try.ntmps70
  go_wp2_with (first | (at_make; refine wpList_make_u32 rfl _ _ rfl _ _ (a.length + q + 1) rfl rfl (by omega) (by omega) (by omega) ?_; intro w1 hrow1 hbel1) | fail)
  go_loopw [7] (fun s wr => ∃ (i : Nat) (Z : List Int), i ≤ a.length ∧ s = .int .i64 i ∧ Z.length = a.length + q + 1 ∧ Ok Z ∧ Row wr w.heap.size Z ∧ Below w.heap.size w wr ∧
      Hid (V Z = V (a.take i) * T n) ∧ Hid (∀ j, i + q < j → Z.getD j 0 = 0) ∧ Hid (Z.getD (i + q) 0 < T p)) (fun s _ => a.length - (intOf s).toNat)
  case atStart => exact ⟨0, zer (a.length + q + 1), by omega, rfl, zer_len _, zer_ok _, hrow1, hbel1, by show _ = _; simp [zer_V, V], fun j _ => zer_at _ _, by show _ < _; rw [zer_at]; exact T_pos p⟩
  case round =>
    obtain ⟨i, Z, hk, rfl, hZl, hZok, hrow, hbel, HV, HZ, HY⟩ := hrel
    clear hrow1 hbel1
    by_cases hil : i < a.length
    · obtain ⟨b, off, rfl, hc⟩ := (ha.below hbel).at i hil
      have hx := ha.ok.getD i
      have c1 := hrow.cell (i + q) (by omega)
      have c2 := hrow.cell (i + q + 1) (by omega)
      have f1 := hrow.frozen (i + q)
      have f2 := hrow.frozen (i + q + 1)
      have hy := hZok.getD (i + q)
      rw [HZ.out (i + q + 1) (by omega)] at c2
      obtain ⟨x, hxe⟩ : ∃ x, x = a.getD i 0 := ⟨_, rfl⟩
      obtain ⟨y, hye⟩ : ∃ y, y = Z.getD (i + q) 0 := ⟨_, rfl⟩
      have hyT : y < T p := by rw [hye]; exact HY.out
      rw [← hxe] at hc hx
      rw [← hye] at c1 hy
      have HXE : Hid _ := hxe
      have HYE : Hid _ := hye
      have hor1 := or_lowR p (by omega) x y hx.1 hx.2 hy.1 hyT
      clear hxe hye hyT
      have hv0 : 0 ≤ x * 2 ^ p := Int.mul_nonneg hx.1 (Int.pow_nonneg (by decide))
      have hv1 : x * 2 ^ p ≤ 18446744073709551615 := by
        rw [← T_pow]
        have h3 := T_mono (show p ≤ 31 by omega)
        have h4 := Int.mul_le_mul (show x ≤ 4294967295 by omega) h3 (Int.le_of_lt (T_pos p)) (by omega)
        have h5 : T 31 = 2147483648 := by decide
        rw [h5] at h4
        omega
      have hi1 : (i : Int) + (q : Int) < (a.length : Int) + (q : Int) + 1 := by omega
      go_wp2_with fail
      have hb1 := low_bd p (by omega) x y hx.1 hy.1 (by rw [HYE.out]; exact HY.out)
      have hb2 := high_bd p x hx.1 hx.2
      have hTp := T_mono (show p ≤ 32 by omega)
      have hT32 : T 32 = 4294967296 := by decide
      rw [← T_pow p, or_zeroR (x * T p / 4294967296) hb2.1 (by omega)]
      have HST := rshl_step Z a i q p n x y (by omega) HXE.out HYE.out (HZ.out _ (by omega)) HNN.out HV.out
      go_roundw
      case rel =>
        refine ⟨i + 1, (Z.set (i + q) (y + x * T p % 4294967296)).set (i + q + 1) (x * T p / 4294967296), by omega, by go_num, by simpa using hZl, (hZok.set _ hb1.1 hb1.2).set _ hb2.1 (by omega), (hrow.set _ _).set _ _, (hbel.setCell (Nat.le_refl _) _).setCell (Nat.le_refl _) _, HST, ?_, ?_⟩
        · intro j hj
          refine Eq.trans ?_ (HZ.out j (by omega))
          simp only [List.getD_eq_getElem?_getD]
          rw [List.getElem?_set_ne (by omega), List.getElem?_set_ne (by omega)]
        · show _ < _
          rw [show i + 1 + q = i + q + 1 by omega]
          simp only [List.getD_eq_getElem?_getD]
          rw [List.getElem?_set_self (by simp; omega)]
          exact hb2.2
      case measure => simp [intOf]; omega
    · obtain rfl : i = a.length := by omega
      have HF : Hid (V Z = V a * T n) := by
        show V Z = V a * T n
        rw [HV.out, List.take_length]
      have hsl := hrow.all hZok (by omega)
      rw [hZl] at hsl
      clear hrow HV HZ
      go_wp2_with fail
      refine (rnorm_any _ Z _ hsl (by omega)).mono ?_
      rintro e w5 ⟨v5, z5, rfl, s5, m5, x5, l5, b5, g5⟩
      have FIN : Hid (NumPost w (V a * T n) (a.length + 129) (.returned v5) w5) := ⟨v5, z5, rfl, s5, m5, x5.trans HF.out, by omega, hbel.trans (b5.mono hbel.size), fun k hk => Nat.le_trans hbel.size (g5 k hk)⟩
      clear x5
      go_wp2_with fail
      go_ret
      exact FIN.out

theorem rshl_any (va : Value) (a : List Int) (n : Int) (w : World) (ha : Sl w va a) (hla : a.length ≤ 100000) :
    Calls Try.prog 70 #[va, .int .i64 n] w fun e w' => NumPost w (V a * T (upN n)) (a.length + 129) e w' :=
  rshl_core va a (upN n) (upN n / 32) (upN n % 32) w ha hla (by omega) (by omega) (by unfold upN; omega) n rfl
end Go.Proofs.Ytmhcgdigccaogaa

/-
  The document's own answers of layer 1 (relictref01): Shr.
-/
namespace Go.Proofs.Ytmhcgdigccaogaa
open Go.RowKit
set_option linter.unusedVariables false

theorem or_above (x1 x0 : Int) (h1 : 0 ≤ x1) (h2 : x1 < 4294967296) (h3 : 0 ≤ x0) (h4 : x0 < 4294967296) : bits .or .u64 x0 (x1 * 4294967296) = x1 * 4294967296 + x0 := by
  obtain ⟨X, rfl⟩ := Int.eq_ofNat_of_zero_le h1
  obtain ⟨Y, rfl⟩ := Int.eq_ofNat_of_zero_le h3
  have e : ((X : Int) * 4294967296) = ((2 ^ 32 * X : Nat) : Int) := by simp; omega
  have hp : (2 : Nat) ^ 32 = 4294967296 := by decide
  rw [e, u64_or_nat _ _ (by omega) (by omega), Nat.or_comm, or_nat 32 X Y (by omega)]
  simp

/-- Two limbs, shifted down, cut to one. -/
theorem two_down (x y : Int) (p : Nat) (hp : p < 32) (hx0 : 0 ≤ x) (hx1 : x < 4294967296) (hy0 : 0 ≤ y) : ((y * 4294967296 + x) / T p) % 4294967296 = x / T p + y % T p * T (32 - p) := by
  have hT := T_pos p
  have e : y * 4294967296 + x = x + (y * T (32 - p)) * T p := by rw [Int.mul_assoc, T_split (by omega)]; omega
  rw [e, Int.add_mul_ediv_right _ _ (by omega)]
  have e2 : y * T (32 - p) = y % T p * T (32 - p) + 4294967296 * (y / T p) := by
    have := Int.mul_ediv_add_emod y (T p)
    rw [← T_split (show p ≤ 32 by omega), Int.mul_assoc, Int.mul_comm (T (32 - p)), ← Int.add_mul]
    congr 1
    omega
  have hb := down_bd p (by omega) x y hx0 hx1 hy0
  rw [e2]
  omega

theorem rshr_step (Z0 L : List Int) (k p : Nat) (x y r : Int) (hp : p ≤ 32) (hl : L.length = k) (hx : x = Z0.getD k 0) (hy : y = Z0.getD (k + 1) 0)
    (hV : V L * T p + r = V (Z0.take k) + B k * (x % T p)) : V (L ++ [x / T p + y % T p * T (32 - p)]) * T p + r = V (Z0.take (k + 1)) + B (k + 1) * (y % T p) := by
  have h := lower_step Z0 (L ++ [0]) k p x y r hp (by simp; omega) hx hy (by
    rw [List.take_append_of_le_length (by omega), List.take_of_length_le (by omega)]; exact hV)
  have e : ((L ++ [0]).set k (x / T p + y % T p * T (32 - p))).take (k + 1) = L ++ [x / T p + y % T p * T (32 - p)] := by
    rw [List.set_append_right _ _ (by omega), show k - L.length = 0 by omega]
    exact List.take_of_length_le (by simp; omega)
  rw [e] at h
  exact h

theorem rshr_fin (a Z0 L : List Int) (q p : Nat) (r : Int) (ha : Ok a) (hq : q ≤ a.length) (hl : L.length = Z0.length) (hZ0 : Z0 = a.drop q) (hr0 : 0 ≤ r) (hr1 : r < T p)
    (hV : V L * T p + r = V (Z0.take L.length) + B L.length * (Z0.getD L.length 0 % T p)) : V L = V a / T (32 * q + p) := by
  have e1 : Z0.getD L.length 0 = 0 := by simp [List.getD, hl]
  rw [e1, Int.zero_emod, Int.mul_zero, Int.add_zero, List.take_of_length_le (by omega)] at hV
  have h4 : V Z0 / T p = V L := by
    rw [← hV, Int.add_comm, Int.add_mul_ediv_right _ _ (by have := T_pos p; omega), Int.ediv_eq_zero_of_lt hr0 hr1]; omega
  have h5 := V_split a q hq
  have h6 := V_lt (ha.take q)
  rw [show (a.take q).length = q by simp; omega] at h6
  have h7 : V a / B q = V Z0 := by
    rw [h5, hZ0, Int.mul_comm, Int.add_mul_ediv_right _ _ (by have := B_pos q; omega), Int.ediv_eq_zero_of_lt (V_nonneg (ha.take q)) h6]; omega
  rw [T_add, T_32, ← Int.ediv_ediv_of_nonneg (Int.le_of_lt (B_pos q)), h7, h4]

set_option maxRecDepth 100000 in
set_option maxHeartbeats 4000000 in
theorem rshr_core (va : Value) (a : List Int) (n q p : Nat) (w : World) (ha : Sl w va a) (hla : a.length ≤ 100000) (hn : n = 32 * q + p) (hp : p < 32) (hnb : n ≤ 9223372036854775807) (N : Int) (hN : downN N = n) :
    Calls Try.prog 74 #[va, .int .i64 N] w fun e w' => NumPost w (V a / T n) a.length e w' := by
  obtain ⟨i0, hi, hz0, hz1, hz2⟩ := info_parts Try.infoU32
  obtain ⟨pa, ca, rfl⟩ := ha.shape
  have h1 : (n : Int) / 32 = (q : Int) := by omega
  have h2 : (n : Int) % 32 = (p : Int) := by omega
  have hqb : q ≤ 9223372036854775807 := by omega
  have HNN : Hid _ := hn
  have hM : (if N < 0 then 0 else N) = (n : Int) := by
    rw [← hN]
    unfold downN
    split <;> omega
  clear hn hN
  obtain ⟨Z0, hZ0⟩ : ∃ Z0, Z0 = a.drop q := ⟨_, rfl⟩
  have HZ0 : Hid _ := hZ0
  have hT := T_pos p
  obtain ⟨r, hr⟩ : ∃ r, r = Z0.getD 0 0 % T p := ⟨_, rfl⟩
  have hr0 := Int.emod_nonneg (Z0.getD 0 0) (show T p ≠ 0 by omega)
  have hr1 := Int.emod_lt_of_pos (Z0.getD 0 0) hT
  rw [← hr] at hr0 hr1
  have HR : Hid _ := hr
  clear hr hZ0
  go_enter Try.func74, Try.ntmps74
  go_wp2_with fail
  go_loopw [6, 7] (fun l s wr => ∃ (k : Nat) (L : List Int), (k = 0 ∨ q + k ≤ a.length) ∧ s = .int .i64 ((q : Int) + (k : Int)) ∧ Hid (L.length = k) ∧ Ok L ∧ Owns wr w.heap.size l L ∧ Below w.heap.size w wr ∧
      Hid (V L * T p + r = V (Z0.take k) + B k * (Z0.getD k 0 % T p))) (fun _ s _ => a.length - (intOf s).toNat)
  case atStart => exact ⟨0, [], .inl rfl, by go_num, rfl, Ok.nil, World.ownsRow_nil _ _ _ _, Below.refl _ _, by show _ = _; rw [← HR.out]; simp [V, B]⟩
  case round =>
    obtain ⟨k, L, hk, rfl, HL, hLok, hown, hbel, HV⟩ := hrel
    have hsa := ha.below hbel
    by_cases hkn : q + k < a.length
    · have hkn' : (q : Int) + (k : Int) < (a.length : Int) := by omega
      have hxa := ha.ok.getD (q + k)
      have hxb := ha.ok.getD (q + k + 1)
      have E1 : Z0.getD k 0 = a.getD (q + k) 0 := by rw [HZ0.out]; simp [List.getD]
      have E2 : Z0.getD (k + 1) 0 = a.getD (q + k + 1) 0 := by rw [HZ0.out]; simp [List.getD, Nat.add_assoc]
      have HST : Hid (V (L ++ [a.getD (q + k) 0 / T p + a.getD (q + k + 1) 0 % T p * T (32 - p)]) * T p + r = V (Z0.take (k + 1)) + B (k + 1) * (a.getD (q + k + 1) 0 % T p)) := rshr_step Z0 L k p _ _ r (by omega) HL.out E1.symm E2.symm (by rw [← E1]; exact HV.out)
      have HE2 : Hid (Z0.getD (k + 1) 0 = a.getD (q + k + 1) 0) := E2
      clear E1 E2
      have CA : Hid (∀ w, Sl w (.slice pa a.length ca) a → Calls Try.prog 69 #[.slice pa a.length ca, .int .i64 ((q : Int) + (k : Int))] w fun e w' => e = .returned (.int .u64 (a.getD (q + k) 0)) ∧ w' = w) := fun w h => at_any _ a _ (q + k) w (by omega) h (by omega)
      have CB : Hid (∀ w, Sl w (.slice pa a.length ca) a → Calls Try.prog 69 #[.slice pa a.length ca, .int .i64 ((q : Int) + (k : Int) + 1)] w fun e w' => e = .returned (.int .u64 (a.getD (q + k + 1) 0)) ∧ w' = w) := fun w h => at_any _ a _ (q + k + 1) w (by omega) h (by omega)
      generalize a.getD (q + k) 0 = x at *
      generalize a.getD (q + k + 1) 0 = y at *
      have hLk : L.length ≤ 100000 := by have := HL.out; omega
      have hor := or_above y x hxb.1 hxb.2 hxa.1 hxa.2
      obtain ⟨D, hD⟩ : ∃ D, D = y * 4294967296 + x := ⟨_, rfl⟩
      rw [← hD] at hor
      have hD0 : 0 ≤ D := by omega
      have hD1 : D ≤ 18446744073709551615 := by omega
      have HTD := two_down x y p hp hxa.1 hxa.2 hxb.1
      rw [← hD, T_pow p] at HTD
      have hbd := down_bd p (by omega) x y hxa.1 hxa.2 hxb.1
      rw [T_pow p] at hbd HST
      generalize x / 2 ^ p + y % 2 ^ p * T (32 - p) = z at *
      clear hD
      have hdd : 0 ≤ D / 2 ^ p := Int.ediv_nonneg hD0 (Int.pow_nonneg (by decide))
      have hdd2 : D / 2 ^ p ≤ 18446744073709551615 := Int.le_trans (Int.ediv_le_self _ hD0) hD1
      go_wp2_with fail
      refine (CA.out _ hsa).mono ?_
      rintro e w' ⟨rfl, hw⟩
      subst hw
      go_wp2_with fail
      refine (CB.out _ hsa).mono ?_
      rintro e w' ⟨rfl, hw⟩
      subst hw
      have hbsz := hbel.size
      go_wp2_with (first | (at_builtin; refine wpList_append_own _ rfl _ _ 22 rfl w.heap.size 53 i0 (.int .u32 0) 1 4 Try.underlying22 hi hz0 hz1 hz2 rfl (by decide) _ _ _ rfl (World.ownsRow.alloc hown _) ⟨_, 0, none⟩ 1 1 [.int .u32 z] rfl rfl (cell_one_new _ _ _) (fun u hu => by simp at hu; subst hu; rfl) (by simp only [maxLen]; omega) (by omega) (by simp; omega) ?_; intro v' w1 hown1 hgr1 _; have hO := owns_snoc (a := L) (z := z) hown1 rfl rfl; have hB1 := (hbel.alloc hbsz (.cells #[.int .u32 z] 53)).grown hgr1 (by simp; omega) (fun k hk => (World.ownsRow.lt hown k hk).1); clear hown1 hgr1 hown) | fail)
      go_roundw
      case rel => exact ⟨k + 1, L ++ [z], .inr (by omega), by go_num, by show _ = _; simp; exact HL.out, hLok.snoc hbd.1 hbd.2, hO, hB1, by rw [HE2.out, T_pow p]; exact HST⟩
      case measure => simp [intOf]; omega
    · have hkn' : ¬ (q : Int) + (k : Int) < (a.length : Int) := by omega
      have HF : Hid (V L = V a / T n) := by
        show V L = V a / T n
        rw [HNN.out]
        by_cases hq : q ≤ a.length
        · exact rshr_fin a Z0 L q p r ha.ok hq (by rw [HL.out, HZ0.out]; simp; omega) HZ0.out hr0 hr1 (by rw [HL.out]; exact HV.out)
        · have hk0 : k = 0 := by omega
          rw [List.eq_nil_of_length_eq_zero (HL.out.trans hk0), lower_none a q p ha.ok (by omega)]; rfl
      have hLk : L.length ≤ a.length := by have := HL.out; omega
      have hsl := hown.sl hLok
      clear HV hown
      go_wp2_with fail
      refine (rnorm_any _ L _ hsl (by omega)).mono ?_
      rintro e w5 ⟨v5, z5, rfl, s5, m5, x5, l5, b5, g5⟩
      have FIN : Hid (NumPost w (V a / T n) a.length (.returned v5) w5) := ⟨v5, z5, rfl, s5, m5, x5.trans HF.out, by omega, hbel.trans (b5.mono hbel.size), fun k hk => Nat.le_trans hbel.size (g5 k hk)⟩
      clear x5
      go_wp2_with fail
      go_ret
      exact FIN.out

theorem rshr_any (va : Value) (a : List Int) (n : Int) (w : World) (ha : Sl w va a) (hla : a.length ≤ 100000) (hn : n ≤ 9223372036854775807) :
    Calls Try.prog 74 #[va, .int .i64 n] w fun e w' => NumPost w (V a / T (downN n)) a.length e w' :=
  rshr_core va a (downN n) (downN n / 32) (downN n % 32) w ha hla (by omega) (by omega) (by unfold downN; omega) n rfl
end Go.Proofs.Ytmhcgdigccaogaa

/-
  The document's own answers of layer 1 (relictref01): Div, bit by bit.
-/
namespace Go.Proofs.Ytmhcgdigccaogaa
open Go.RowKit
set_option linter.unusedVariables false

theorem bit_up (x : Int) (m : Nat) : x / T m = 2 * (x / T (m + 1)) + (x / T m) % 2 := by
  have e : x / T (m + 1) = (x / T m) / 2 := by
    simp only [T]
    rw [Int.mul_comm, ← Int.ediv_ediv_of_nonneg (Int.le_of_lt (T_pos m))]
  rw [e]; omega

/-- The limb in which the next bit of the quotient is laid has none of the bits from that one down. -/
theorem quo_limb (Q : List Int) (hQ : Ok Q) (q p : Nat) (hp : p < 32) (hq : q < Q.length) (c : Int) (h : V Q = T (32 * q + p + 1) * c) : ∃ m, 0 ≤ m ∧ Q.getD q 0 = T (p + 1) * m := by
  have s := V_split Q q (by omega)
  have d := V_drop Q q hq
  have l := V_lt (hQ.take q)
  rw [show (Q.take q).length = q by simp; omega] at l
  have n1 := V_nonneg (hQ.take q)
  have hB := B_pos q
  have e1 : V Q = B q * (T (p + 1) * c) := by rw [h, show 32 * q + p + 1 = 32 * q + (p + 1) by omega, T_add, T_32, Int.mul_assoc]
  have e0 : V (Q.take q) = 0 := by
    have := mul_one_eq (x := V (Q.take q)) (y := 0) (c := V (Q.drop q)) (d := T (p + 1) * c) hB n1 l (Int.le_refl _) hB (by rw [← s, e1]; omega)
    exact this
  rw [e0, Int.zero_add, e1] at s
  have e2 : T (p + 1) * c = V (Q.drop q) := Int.eq_of_mul_eq_mul_left (by omega) s
  rw [d] at e2
  refine ⟨c - T (31 - p) * V (Q.drop (q + 1)), ?_, ?_⟩
  · have hT := T_pos (p + 1)
    have e3 : T (p + 1) * (c - T (31 - p) * V (Q.drop (q + 1))) = Q.getD q 0 := by
      rw [Int.mul_sub, e2, ← Int.mul_assoc, ← T_add, show p + 1 + (31 - p) = 32 by omega]
      have : T 32 = 4294967296 := by decide
      rw [this]; omega
    have e4 := (hQ.getD q).1
    rw [← e3] at e4
    rcases ltge (c - T (31 - p) * V (Q.drop (q + 1))) 0 with h1 | h1
    · have := Int.mul_lt_mul_of_pos_left h1 hT
      rw [Int.mul_zero] at this
      omega
    · exact h1
  · rw [Int.mul_sub, e2, ← Int.mul_assoc, ← T_add, show p + 1 + (31 - p) = 32 by omega]
    have : T 32 = 4294967296 := by decide
    rw [this]; omega

theorem or_bit (p : Nat) (hp : p < 32) (m y : Int) (hm : 0 ≤ m) (hy : y = T (p + 1) * m) (hy1 : y < 4294967296) : bits .or .u32 y (2 ^ p) = y + T p ∧ y + T p < 4294967296 := by
  obtain ⟨M, rfl⟩ := Int.eq_ofNat_of_zero_le hm
  have hp2 : (2 : Nat) ^ p < 2 ^ 32 := Nat.pow_lt_pow_right (by decide) hp
  have hp3 : (2 : Nat) ^ 32 = 4294967296 := by decide
  have e0 : y = ((2 ^ (p + 1) * M : Nat) : Int) := by rw [hy, T_nat]; simp
  have e1 : ((2 : Int) ^ p) = ((2 ^ p : Nat) : Int) := by simp
  have hlt : (2 : Nat) ^ p < 2 ^ (p + 1) := Nat.pow_lt_pow_right (by decide) (by omega)
  have hy2 : 2 ^ (p + 1) * M < 4294967296 := by omega
  have hor := or_nat (p + 1) M (2 ^ p) hlt
  have hr : 2 ^ (p + 1) * M ||| 2 ^ p < 2 ^ 32 := Nat.or_lt_two_pow (by omega) (by omega)
  refine ⟨?_, ?_⟩
  · rw [e0, e1, u32_or_nat _ _ hy2 (by omega), hor, T_nat]; simp
  · rw [e0, T_nat]; omega

theorem rdiv_step (x y c r bit : Int) (hy : 0 < y) (hr0 : 0 ≤ r) (hr1 : r < y) (h : x = 2 * (y * c + r) + bit) (hb0 : 0 ≤ bit) (hb1 : bit ≤ 1) :
    (y ≤ 2 * r + bit → x = y * (2 * c + 1) + (2 * r + bit - y) ∧ 0 ≤ 2 * r + bit - y ∧ 2 * r + bit - y < y) ∧ (2 * r + bit < y → x = y * (2 * c) + (2 * r + bit) ∧ 0 ≤ 2 * r + bit) := by
  have e : y * (2 * c) = 2 * (y * c) := by rw [Int.mul_left_comm]
  have e2 : y * (2 * c + 1) = 2 * (y * c) + y := by rw [Int.mul_add, e, Int.mul_one]
  refine ⟨fun h1 => ⟨by rw [e2]; omega, by omega, by omega⟩, fun h1 => ⟨by rw [e]; omega, by omega⟩⟩

def DivRel2 (a b : List Int) (R Q : List Int) (m : Nat) : Prop :=
  Q.length = a.length ∧ Ok Q ∧ Nm R ∧ V R < V b ∧ ∃ c, V Q = T m * c ∧ V a / T m = V b * c + V R

set_option maxRecDepth 100000 in
set_option maxHeartbeats 4000000 in
theorem rdiv_any (va vb : Value) (a b : List Int) (w : World) (ha : Sl w va a) (hb : Sl w vb b) (hla : a.length ≤ 10000) (hlb : b.length ≤ 10000) :
    Calls Try.prog 40 #[va, vb] w fun e w' => DivPost w (V a) (V b) (a.length + b.length + 1) e w' := by
  obtain ⟨pa, ca, rfl⟩ := ha.shape
  obtain ⟨pb, cb, rfl⟩ := hb.shape
  have HOA : Hid (0 < a.length → ∃ k, (Value.slice pa a.length ca).ownBlock = some k ∧ k < w.heap.size) := fun h => ha.block h
  have HOB : Hid (0 < b.length → ∃ k, (Value.slice pb b.length cb).ownBlock = some k ∧ k < w.heap.size) := fun h => hb.block h
  go_enter Try.func40, Try.ntmps40
  go_wp2_with fail
  refine (rnorm_any _ b _ hb (by omega)).mono ?_
  rintro e w1 ⟨v1, C, rfl, s1, m1, x1, l1, b1, -⟩
  have X1 : Hid _ := x1
  obtain ⟨p1, c1, rfl⟩ := s1.shape
  clear x1
  by_cases h0 : C.length = 0
  · have hb0 : ((C.length : Int) == 0) = true := beq_iff_eq.2 (by omega)
    have HF : Hid (V b = 0) := by
      show V b = 0
      rw [← X1.out, List.eq_nil_of_length_eq_zero h0]; rfl
    go_wp2_with fail
    go_ret2
    exact ⟨_, _, [], [], rfl, Sl.nil _, Sl.nil _, Nm_nil, Nm_nil, Nat.zero_le _, Nat.zero_le _, b1, fun _ => ⟨rfl, rfl⟩, fun h => absurd HF.out h⟩
  · have hb0 : ((C.length : Int) == 0) = false := beq_eq_false_iff_ne.2 (by omega)
    have hbpos : 0 < V b := by
      have h1 := V_ge s1.ok m1 (by omega)
      have h2 := B_pos (C.length - 1)
      rw [← X1.out]
      omega
    replace ha := ha.below b1
    replace hb := hb.below b1
    go_wp2_with (first | (at_make; refine wpList_make_u32 rfl _ _ rfl _ _ a.length rfl rfl (by omega) (by omega) (by omega) ?_; intro w2 hrow2 hbel2) | fail)
    replace ha := ha.below hbel2
    replace hb := hb.below hbel2
    have B2 := b1.trans (hbel2.mono b1.size)
    refine (rlen_any _ a _ ha (by omega)).mono ?_
    rintro e w3 ⟨n, rfl, b3, hlen, hnb⟩
    have hrow3 := hrow2.below b3 hrow2.lt
    have hgq := b1.size
    replace ha := ha.below b3
    replace hb := hb.below b3
    have B3 := B2.trans (b3.mono B2.size)
    have HL : Hid (IsLen (V a) n) := hlen
    have hstart : DivRel2 a b [] (zer a.length) n := by
      refine ⟨zer_len _, zer_ok _, Nm_nil, hbpos, 0, by rw [zer_V]; omega, ?_⟩
      rw [isLen_top hlen]; simp [V]
    have HST : Hid _ := hstart
    clear hrow2 hbel2 hlen hstart
    obtain ⟨G, hG⟩ : ∃ G, G = w1.heap.size := ⟨_, rfl⟩
    rw [← hG] at hrow3 hgq ⊢
    clear hG
    go_wp2_with fail
    go_loopw [7, 8] (fun v s wr => ∃ (k : Nat) (R Q : List Int), k ≤ n ∧ s = .int .i64 ((k : Int) - 1) ∧ Sl wr v R ∧ Row wr G Q ∧ Below w.heap.size w wr ∧ Sl wr (.slice pa a.length ca) a ∧ Sl wr (.slice pb b.length cb) b ∧ Hid (DivRel2 a b R Q k) ∧ Hid (∀ k, v.ownBlock = some k → k ≠ G)) (fun _ s _ => ((intOf s) + 1).toNat)
    case atStart => exact ⟨n, [], zer a.length, Nat.le_refl _, rfl, Sl.nil _, hrow3, B3, ha, hb, HST, fun k hk => by simp [Value.ownBlock] at hk⟩
    case round =>
      obtain ⟨k, R, Q, hk, rfl, hsR, hrQ, hbel, hsa, hsb, HR, HO⟩ := hrel
      clear ha hb hrow3 B2 B3 HST
      cases k with
      | zero =>
        obtain ⟨hQl, hQok, hRn, hRlt, c0, hQ0, hU⟩ := HR.out
        have HU : Hid (V Q * V b + V R = V a) := by
          show V Q * V b + V R = V a
          simp only [T, Int.one_mul, Int.ediv_one] at hQ0 hU
          rw [hQ0, hU, Int.mul_comm]
        have HLT : Hid _ := hRlt
        have hRl := len_le_of hsR.ok hRn (Int.lt_trans hRlt (V_lt hsb.ok))
        have hsl := hrQ.all hQok (by omega)
        rw [hQl] at hsl
        clear hQ0 hU hRlt
        go_wp2_with fail
        refine (rnorm_any _ Q _ hsl (by omega)).mono ?_
        rintro e w5 ⟨v5, z5, rfl, s5, m5, x5, l5, b5, g5⟩
        have X5 : Hid _ := x5
        have hsR5 := hsR.below b5
        have B5 := hbel.trans (b5.mono hbel.size)
        clear x5
        go_wp2_with fail
        go_ret2
        exact ⟨_, _, z5, R, rfl, s5, hsR5, m5, hRn, by omega, by omega, B5, fun h => by omega, fun _ => ⟨by rw [X5.out]; exact HU.out, HLT.out⟩⟩
      | succ m =>
        rw [show ((m + 1 : Nat) : Int) - 1 = (m : Int) by omega]
        obtain ⟨hQl, hQok, hRn, hRlt, c0, hQ0, hU⟩ := HR.out
        have hRl := len_le_of hsR.ok hRn (Int.lt_trans hRlt (V_lt hsb.ok))
        have hRok := hsR.ok
        have HRlt : Hid _ := hRlt
        have HQ0 : Hid _ := hQ0
        obtain ⟨q, hq⟩ : ∃ q, q = m / 32 := ⟨_, rfl⟩
        obtain ⟨p, hp⟩ : ∃ p, p = m % 32 := ⟨_, rfl⟩
        have hq' : (m : Int) / 32 = (q : Int) := by omega
        have hp' : (m : Int) % 32 = (p : Int) := by omega
        have hp32 : p < 32 := by omega
        have HM : Hid (m = 32 * q + p) := by show m = 32 * q + p; omega
        have hqA : q < a.length := by omega
        have hqA' : (q : Int) < (a.length : Int) := by omega
        clear hq hp
        have HNA : Hid ((Value.slice pa a.length ca).ownBlock ≠ some G) := by
          intro e
          obtain ⟨k', h1, h2⟩ := HOA.out (by omega)
          rw [e] at h1; injection h1 with h1; omega
        have hbl : 0 < b.length := by
          rcases Nat.eq_zero_or_pos b.length with h | h
          · rw [List.eq_nil_of_length_eq_zero h] at hbpos; simp [V] at hbpos
          · exact h
        have HNB : Hid ((Value.slice pb b.length cb).ownBlock ≠ some G) := by
          intro e
          obtain ⟨k', h1, h2⟩ := HOB.out hbl
          rw [e] at h1; injection h1 with h1; omega
        obtain ⟨mm, hmm0, hmm⟩ := quo_limb Q hQok q p hp32 (by omega) c0 (by rw [hQ0, HM.out])
        obtain ⟨y, hye⟩ : ∃ y, y = Q.getD q 0 := ⟨_, rfl⟩
        have hyl := (hQok.getD q)
        rw [← hye] at hmm hyl
        obtain ⟨hor, hyb⟩ := or_bit p hp32 mm y hmm0 hmm hyl.2
        have hpm : (2 : Int) ^ p % 4294967296 = 2 ^ p := by
          rw [← T_pow]
          have h1 := T_mono (show p ≤ 31 by omega)
          have h2 : T 31 = 2147483648 := by decide
          exact Int.emod_eq_of_lt (Int.le_of_lt (T_pos p)) (by omega)
        rw [← hpm] at hor
        have HYE : Hid (y = Q.getD q 0) := hye
        have hTp := T_pos p
        have hbv := bit_V a hsa.ok q p hp32
        have hup := bit_up (V a) m
        rw [hU] at hup
        rw [← HM.out] at hbv
        rw [hbv] at hup
        have HUP0 : Hid _ := hup
        obtain ⟨b9, off9, hpa, hc⟩ := hsa.at q hqA
        have hx := hsa.ok.getD q
        obtain ⟨x, hxe⟩ : ∃ x, x = a.getD q 0 := ⟨_, rfl⟩
        rw [← hxe] at hc hx HUP0
        have hsb9 := shr_bd x p hx.1 hx.2
        have hand := and_one (x / T p) hsb9.1 hsb9.2
        obtain ⟨r, hr⟩ : ∃ r, r = x / T p % 2 := ⟨_, rfl⟩
        rw [← hr] at hand HUP0
        rw [T_pow] at hand hsb9
        have hr2 : r = 0 ∨ r = 1 := by omega
        have HR2 : Hid (2 * (V b * c0 + V R) + r = 2 * (V b * c0 + V R) + r) := rfl
        clear hr hmm hU hQ0 hRlt hbv hup hxe HR hye hpm
        have hGlt := hrQ.lt
        go_wp2_with fail
        refine (rshl_any _ R 1 _ hsR (by omega)).mono ?_
        rintro e w5 ⟨v5, z5, rfl, s5, m5, x5, l5, b5, g5⟩
        have X5 : Hid (V z5 = 2 * V R) := by
          show V z5 = 2 * V R
          rw [x5, show upN 1 = 1 from rfl]; simp only [T]; omega
        replace hrQ := hrQ.below b5 hrQ.lt
        replace hsa := hsa.below b5
        replace hsb := hsb.below b5
        replace hc := (b5.cell (p := ⟨b9, off9 + q, none⟩) (by have := World.block_lt_of_cell? _ _ hc; exact this)).trans hc
        replace hbel := hbel.trans (b5.mono hbel.size)
        subst hpa
        clear x5 hsR b5
        rcases hr2 with rfl | rfl
        · have HUP : Hid (V a / T m = 2 * (V b * c0 + V R) + 0) := HUP0.out
          have X7 : Hid (V z5 = 2 * V R + 0) := by show V z5 = 2 * V R + 0; rw [X5.out]; omega
          go_wp2_with fail
          refine (rcmp_any _ _ z5 b _ s5 hsb (by omega) (by omega)).mono ?_
          rintro e w' ⟨rfl, hw⟩
          have hw' := hw.symm
          subst hw'
          clear hw
          by_cases hge : V b ≤ V z5
          · have hsg : 0 ≤ sg (V z5) (V b) := by
              rcases Int.lt_trichotomy (V z5) (V b) with h | h | h
              · omega
              · rw [h, sg_self]; omega
              · rw [sg_gt h]; omega
            have HGE : Hid (V b ≤ V z5) := hge
            generalize sg (V z5) (V b) = sgn at *
            clear hge
            go_wp2_with fail
            refine (rsub_any _ _ z5 b _ s5 hsb (by omega) (by omega)).mono ?_
            rintro e w8 ⟨v8, z8, rfl, s8, m8, x8, l8, b8, g8⟩
            have X8 : Hid (V z8 = V z5 - V b) := x8.trans (subV_ge HGE.out)
            have hGc := hrQ.lt
            have hrQ8 := hrQ.below b8 hrQ.lt
            have hsa8 := hsa.below b8
            have hsb8 := hsb.below b8
            have hbel8 := hbel.trans (b8.mono hbel.size)
            have hQc := hrQ8.cell q (by omega)
            have hQf := hrQ8.frozen q
            rw [← HYE.out] at hQc
            clear x8 s5 hrQ hsa hsb hbel
            go_wp2_with fail
            go_roundw
            case rel =>
              have hbut := (But.refl G w8).setCell q (.int .u32 (y + T p))
              refine ⟨m, z8, Q.set q (y + T p), by omega, by go_num, s8.but hbut (by intro e; have := g8 _ e; omega), hrQ8.set q _, hbel8.trans (hbut.below hgq), hsa8.but hbut HNA.out, hsb8.but hbut HNB.out, ?_, fun k hk => by have := g8 _ hk; omega⟩
              have hd := (rdiv_step (V a / T m) (V b) c0 (V R) _ hbpos (V_nonneg hRok) HRlt.out HUP.out (by omega) (by omega)).1 (by rw [← X7.out]; exact HGE.out)
              refine ⟨by simpa using hQl, hQok.set q (by omega) hyb, m8, by rw [X8.out, X7.out]; exact hd.2.2, 2 * c0 + 1, ?_, by rw [X8.out, X7.out]; exact hd.1⟩
              rw [V_set Q q _ (by omega), ← HYE.out, HQ0.out, show y + T p - y = T p by omega, ← T_32, ← T_add, ← HM.out]
              simp only [T]
              rw [Int.mul_add, Int.mul_one, Int.mul_assoc, Int.mul_left_comm]
            case measure => simp [intOf]
          · have hlt : V z5 < V b := by omega
            have HLT : Hid _ := hlt
            rw [sg_lt hlt]
            clear hlt hge
            go_wp2_with fail
            go_roundw
            case rel =>
              refine ⟨m, z5, Q, by omega, by go_num, s5, hrQ, hbel, hsa, hsb, ?_, fun k hk => by have := g5 _ hk; omega⟩
              have hd := (rdiv_step (V a / T m) (V b) c0 (V R) _ hbpos (V_nonneg hRok) HRlt.out HUP.out (by omega) (by omega)).2 (by rw [← X7.out]; exact HLT.out)
              refine ⟨hQl, hQok, m5, HLT.out, 2 * c0, ?_, by rw [X7.out]; exact hd.1⟩
              rw [HQ0.out]
              simp only [T]
              rw [Int.mul_assoc, Int.mul_left_comm]
            case measure => simp [intOf]
        · have HUP : Hid (V a / T m = 2 * (V b * c0 + V R) + 1) := HUP0.out
          have sL := sl_lit w5 1 (by decide) (by decide)
          have bA := (Below.refl w5.heap.size w5).alloc (Nat.le_refl _) (.cells #[.int .u32 1] 53)
          have s5A := s5.below bA
          go_wp2_with fail
          refine (radd_any _ _ z5 [1] _ s5A sL (by omega) (by simp)).mono ?_
          rintro e w6 ⟨v6, z6, rfl, s6, m6, x6, l6, b6, g6⟩
          have X7 : Hid (V z6 = 2 * V R + 1) := by
            show V z6 = 2 * V R + 1
            rw [x6, X5.out]; simp [V]
          have b56 := bA.trans (b6.mono bA.size)
          have hG5 := hrQ.lt
          replace hrQ := hrQ.below b56 hrQ.lt
          replace hsa := hsa.below b56
          replace hsb := hsb.below b56
          have hGlt6 := hrQ.lt
          have hG56 := b56.size
          replace hbel := hbel.trans (b56.mono hbel.size)
          simp only [List.length_cons, List.length_nil] at l6
          have g6' : ∀ k, v6.ownBlock = some k → G < k := fun k hk => by
            have h1 := g6 k hk
            have h2 := bA.size
            omega
          clear x6 s5 s5A sL b6 bA b56 hc g6
          go_wp2_with fail
          refine (rcmp_any _ _ z6 b _ s6 hsb (by omega) (by omega)).mono ?_
          rintro e w' ⟨rfl, hw⟩
          have hw' := hw.symm
          subst hw'
          clear hw
          by_cases hge : V b ≤ V z6
          · have hsg : 0 ≤ sg (V z6) (V b) := by
              rcases Int.lt_trichotomy (V z6) (V b) with h | h | h
              · omega
              · rw [h, sg_self]; omega
              · rw [sg_gt h]; omega
            have HGE : Hid (V b ≤ V z6) := hge
            generalize sg (V z6) (V b) = sgn at *
            clear hge
            go_wp2_with fail
            refine (rsub_any _ _ z6 b _ s6 hsb (by omega) (by omega)).mono ?_
            rintro e w8 ⟨v8, z8, rfl, s8, m8, x8, l8, b8, g8⟩
            have X8 : Hid (V z8 = V z6 - V b) := x8.trans (subV_ge HGE.out)
            have hGc := hrQ.lt
            have hrQ8 := hrQ.below b8 hrQ.lt
            have hsa8 := hsa.below b8
            have hsb8 := hsb.below b8
            have hbel8 := hbel.trans (b8.mono hbel.size)
            have hQc := hrQ8.cell q (by omega)
            have hQf := hrQ8.frozen q
            rw [← HYE.out] at hQc
            clear x8 s6 hrQ hsa hsb hbel
            go_wp2_with fail
            go_roundw
            case rel =>
              have hbut := (But.refl G w8).setCell q (.int .u32 (y + T p))
              refine ⟨m, z8, Q.set q (y + T p), by omega, by go_num, s8.but hbut (by intro e; have := g8 _ e; omega), hrQ8.set q _, hbel8.trans (hbut.below hgq), hsa8.but hbut HNA.out, hsb8.but hbut HNB.out, ?_, fun k hk => by have := g8 _ hk; omega⟩
              have hd := (rdiv_step (V a / T m) (V b) c0 (V R) _ hbpos (V_nonneg hRok) HRlt.out HUP.out (by omega) (by omega)).1 (by rw [← X7.out]; exact HGE.out)
              refine ⟨by simpa using hQl, hQok.set q (by omega) hyb, m8, by rw [X8.out, X7.out]; exact hd.2.2, 2 * c0 + 1, ?_, by rw [X8.out, X7.out]; exact hd.1⟩
              rw [V_set Q q _ (by omega), ← HYE.out, HQ0.out, show y + T p - y = T p by omega, ← T_32, ← T_add, ← HM.out]
              simp only [T]
              rw [Int.mul_add, Int.mul_one, Int.mul_assoc, Int.mul_left_comm]
            case measure => simp [intOf]
          · have hlt : V z6 < V b := by omega
            have HLT : Hid _ := hlt
            rw [sg_lt hlt]
            clear hlt hge
            go_wp2_with fail
            go_roundw
            case rel =>
              refine ⟨m, z6, Q, by omega, by go_num, s6, hrQ, hbel, hsa, hsb, ?_, fun k hk => by have := g6' _ hk; omega⟩
              have hd := (rdiv_step (V a / T m) (V b) c0 (V R) _ hbpos (V_nonneg hRok) HRlt.out HUP.out (by omega) (by omega)).2 (by rw [← X7.out]; exact HLT.out)
              refine ⟨hQl, hQok, m6, HLT.out, 2 * c0, ?_, by rw [X7.out]; exact hd.1⟩
              rw [HQ0.out]
              simp only [T]
              rw [Int.mul_assoc, Int.mul_left_comm]
            case measure => simp [intOf]
end Go.Proofs.Ytmhcgdigccaogaa
