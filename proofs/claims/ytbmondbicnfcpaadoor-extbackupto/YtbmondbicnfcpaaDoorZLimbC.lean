import Derived.Test.YtbmondbicnfcpaaDoorZLimbB
import Derived.Deep.LoopGhost
import Derived.WalkMore
/-
  math/bits.LeadingZeros32 and limb.guess.
-/
namespace Go.Proofs.YtbmondbicnfcpaaDoor
open Go.RowKit
set_option linter.unusedVariables false

set_option maxHeartbeats 400000 in
theorem lz32_any (x : Int) (w : World) (h0 : 0 ≤ x) (h1 : x ≤ 4294967295) :
    Calls Tryd.prog 137 #[.int .u32 x] w fun e w' => e = .returned (.int .i64 (32 - (Lib.bitLen x.toNat : Int))) ∧ w = w' := by
  have hb := (isLen_u32 x h0 (by omega)).2
  go_enter Tryd.func137, Tryd.ntmps137
  go_wp2_with fail
  refine (len32_any x _ h0 h1).mono ?_
  rintro e w' ⟨rfl, hw⟩
  subst hw
  go_wp2_with fail
  go_ret
  exact ⟨rfl, rfl⟩

theorem or_high (x1 x0 : Int) (h1 : 0 ≤ x1) (h2 : x1 < 4294967296) (h3 : 0 ≤ x0) (h4 : x0 < 4294967296) : bits .or .u64 (x1 * 4294967296) x0 = x1 * 4294967296 + x0 := by
  obtain ⟨X, rfl⟩ := Int.eq_ofNat_of_zero_le h1
  obtain ⟨Y, rfl⟩ := Int.eq_ofNat_of_zero_le h3
  have e : ((X : Int) * 4294967296) = ((2 ^ 32 * X : Nat) : Int) := by simp; omega
  have hp : (2 : Nat) ^ 32 = 4294967296 := by decide
  rw [e, u64_or_nat _ _ (by omega) (by omega), or_nat 32 X Y (by omega)]
  simp

/-- What guess answers. -/
def gs (X Y : List Int) : Int := min ((X.getD Y.length 0 * 4294967296 + X.getD (Y.length - 1) 0) / Y.getD (Y.length - 1) 0) 4294967295

set_option maxHeartbeats 1000000 in
theorem guess_any (vx vy : Value) (X Y : List Int) (w : World) (hx : Sl w vx X) (hy : Sl w vy Y) (hl : X.length = Y.length + 1) (h0 : 0 < Y.length) (hY : 0 < Y.getD (Y.length - 1) 0) (hn : Y.length ≤ 1000000) :
    Calls Tryd.prog 158 #[vx, vy] w fun e w' => e = .returned (.int .u32 (gs X Y)) ∧ Below w.heap.size w w' := by
  obtain ⟨px, cx, rfl⟩ := hx.shape
  obtain ⟨py, cy, rfl⟩ := hy.shape
  obtain ⟨b, off, rfl, c1⟩ := hx.at Y.length (by omega)
  obtain ⟨b', off', he, c2⟩ := hx.at (Y.length - 1) (by omega)
  simp at he
  obtain ⟨rfl, rfl⟩ := he
  obtain ⟨d, o2, rfl, c3⟩ := hy.at (Y.length - 1) (by omega)
  have b1 := hx.ok.getD Y.length
  have b2 := hx.ok.getD (Y.length - 1)
  have b3 := hy.ok.getD (Y.length - 1)
  have HG : Hid (gs X Y = min ((X.getD Y.length 0 * 4294967296 + X.getD (Y.length - 1) 0) / Y.getD (Y.length - 1) 0) 4294967295) := rfl
  generalize X.getD Y.length 0 = x1 at *
  generalize X.getD (Y.length - 1) 0 = x0 at *
  generalize Y.getD (Y.length - 1) 0 = y at *
  generalize gs X Y = G at *
  have hi1 : ((Y.length : Int) - 1).toNat = Y.length - 1 := by omega
  have hi2 : (0 : Int) ≤ (Y.length : Int) - 1 := by omega
  have hi3 : (Y.length : Int) < (X.length : Int) := by omega
  have hi4 : (Y.length : Int) - 1 < (X.length : Int) := by omega
  obtain ⟨h, hh⟩ : ∃ h, h = x1 * 4294967296 + x0 := ⟨_, rfl⟩
  have hor : bits BinOp.or IntKind.u64 (x1 * 4294967296) x0 = h := by rw [hh]; exact or_high x1 x0 b1.1 b1.2 b2.1 b2.2
  have hb0 : 0 ≤ h := by omega
  have hb1 : h ≤ 18446744073709551615 := by omega
  rw [← hh] at HG
  clear hh
  have hd0 : 0 ≤ h / y := Int.ediv_nonneg hb0 (by omega)
  have hd1 : h / y ≤ 18446744073709551615 := Int.le_trans (Int.ediv_le_self _ hb0) hb1
  by_cases hm : h / y ≤ 4294967295
  · have HG' : Hid (h / y = G) := by
      show h / y = G
      rw [HG.out]; omega
    clear HG
    go_enter Tryd.func158, Tryd.ntmps158
    go_wp2_with fail
    go_quiet (fail)
    go_wp2_with fail
    go_ret
    exact ⟨congrArg Ending.returned (congrArg (Value.int IntKind.u32) HG'.out), below_drewN (Below.refl _ _) _⟩
  · have HG' : Hid (4294967295 = G) := by
      show 4294967295 = G
      rw [HG.out]; omega
    clear HG
    go_enter Tryd.func158, Tryd.ntmps158
    go_wp2_with fail
    go_quiet (fail)
    go_wp2_with fail
    go_ret
    exact ⟨congrArg Ending.returned (congrArg (Value.int IntKind.u32) HG'.out), below_drewN (Below.refl _ _) _⟩
end Go.Proofs.YtbmondbicnfcpaaDoor

/-
  The mathematics of limb.divide: guessed limbs are never too small; one limb of the quotient; the frame of what is written.
-/
namespace Go.Proofs.YtbmondbicnfcpaaDoor
open Go.RowKit
set_option linter.unusedVariables false

theorem ltge (a b : Int) : a < b ∨ b ≤ a := by omega

theorem V_two (X : List Int) (n : Nat) (h : X.length = n + 2) : V X = V (X.take n) + B n * (X.getD (n + 1) 0 * 4294967296 + X.getD n 0) := by
  rw [V_split X n (by omega), V_drop X n (by omega), V_drop X (n + 1) (by omega)]
  have hz : X.drop (n + 1 + 1) = [] := by apply List.drop_eq_nil_of_le; omega
  rw [hz]
  simp only [V]
  have e : X.getD n 0 + 4294967296 * (X.getD (n + 1) 0 + 4294967296 * 0) = X.getD (n + 1) 0 * 4294967296 + X.getD n 0 := by omega
  rw [e]

theorem V_one (Y : List Int) (n : Nat) (h : Y.length = n + 1) : V Y = V (Y.take n) + B n * Y.getD n 0 := by
  rw [V_split Y n (by omega), V_drop Y n (by omega)]
  have hz : Y.drop (n + 1) = [] := by apply List.drop_eq_nil_of_le; omega
  rw [hz]
  simp only [V, Int.mul_zero, Int.add_zero]

theorem guess_ge (X Y : List Int) (hX : Ok X) (hY : Ok Y) (hl : X.length = Y.length + 1) (h0 : 0 < Y.length) (hy : 0 < Y.getD (Y.length - 1) 0) (q : Int) (hq0 : 0 ≤ q) (hq : q * V Y ≤ V X) (hlt : V X < V Y * 4294967296) : q ≤ gs X Y := by
  obtain ⟨n, hn⟩ : ∃ n, Y.length = n + 1 := ⟨Y.length - 1, by omega⟩
  unfold gs
  rw [hn, show n + 1 - 1 = n by omega] at hy ⊢
  have eX := V_two X n (by omega)
  have eY := V_one Y n hn
  have lX := V_lt (hX.take n)
  rw [show (X.take n).length = n by simp; omega] at lX
  have nY := V_nonneg (hY.take n)
  have hB := B_pos n
  generalize X.getD (n + 1) 0 * 4294967296 + X.getD n 0 = H at *
  generalize Y.getD n 0 = y at *
  have hvpos : 0 < V Y := by
    have := Int.mul_pos hB hy
    omega
  have h1 : q < 4294967296 := by
    rcases ltge q 4294967296 with h | h
    · exact h
    · have := Int.mul_le_mul_of_nonneg_right h (Int.le_of_lt hvpos)
      rw [Int.mul_comm (V Y)] at hlt
      omega
  have h2 : q * y ≤ H := by
    rcases ltge H (q * y) with h | h
    · have k1 : B n * (H + 1) ≤ B n * (q * y) := Int.mul_le_mul_of_nonneg_left (by omega) (Int.le_of_lt hB)
      have k2 : q * (B n * y) ≤ q * V Y := Int.mul_le_mul_of_nonneg_left (by omega) hq0
      rw [Int.mul_left_comm] at k2
      rw [Int.mul_add, Int.mul_one] at k1
      omega
    · exact h
  have h3 : q ≤ H / y := (Int.le_ediv_iff_mul_le hy).2 h2
  omega

theorem gs_bd (X Y : List Int) (hX : Ok X) (hy : 0 < Y.getD (Y.length - 1) 0) : 0 ≤ gs X Y ∧ gs X Y ≤ 4294967295 := by
  unfold gs
  have h1 := hX.getD Y.length
  have h2 := hX.getD (Y.length - 1)
  have h3 := Int.ediv_nonneg (show 0 ≤ X.getD Y.length 0 * 4294967296 + X.getD (Y.length - 1) 0 by omega) (Int.le_of_lt hy)
  omega

/-- What takeTimes leaves: it was enough just where the carry is 0. -/
theorem take_enough (X X' Y : List Int) (q c : Int) (hX' : Ok X') (hl : X.length = Y.length + 1) (hl' : X'.length = X.length) (hc0 : 0 ≤ c) (h : V X' + V (Y.take X.length) * q = V X + B X.length * c) :
    (c = 0 → V X' = V X - V Y * q ∧ 0 ≤ V X - V Y * q) ∧ (c ≠ 0 → V X < V Y * q) := by
  rw [List.take_of_length_le (by omega)] at h
  have h1 := V_nonneg hX'
  have h2 := V_lt hX'
  rw [hl'] at h2
  refine ⟨fun e => ?_, fun e => ?_⟩
  · subst e; omega
  · have : B X.length * 1 ≤ B X.length * c := Int.mul_le_mul_of_nonneg_left (by omega) (Int.le_of_lt (B_pos _))
    omega

theorem mul_one_eq {b x y c d : Int} (hb : 0 < b) (hx0 : 0 ≤ x) (hx : x < b) (hy0 : 0 ≤ y) (hy : y < b) (h : x + b * c = y + b * d) : x = y := by
  have e1 : (x + b * c) % b = x := by rw [Int.add_mul_emod_self_left]; exact Int.emod_eq_of_lt hx0 hx
  have e2 : (y + b * d) % b = y := by rw [Int.add_mul_emod_self_left]; exact Int.emod_eq_of_lt hy0 hy
  rw [← e1, ← e2, h]

/-- What was taken too much, and is brought back, is what it was. -/
theorem back (X X' X'' Y : List Int) (q c d : Int) (hX : Ok X) (hX'' : Ok X'') (hl' : X'.length = X.length) (hl'' : X''.length = X'.length)
    (h1 : V X' + V (Y.take X.length) * q = V X + B X.length * c) (h2 : V X'' + B X'.length * d = V X' + V (Y.take X'.length) * q) : X'' = X := by
  rw [hl'] at h2
  refine V_inj hX'' hX (by omega) ?_
  have l1 := V_lt hX
  have l2 := V_lt hX''
  rw [hl'', hl'] at l2
  exact mul_one_eq (c := d) (d := c) (B_pos X.length) (V_nonneg hX'') l2 (V_nonneg hX) l1 (by omega)

/-- A limb of the quotient: what is known of the piece. -/
theorem piece (L Y : List Int) (k : Nat) (hL : Ok L) (hY : Ok Y) (hk : k + (Y.length + 1) ≤ L.length) (h : V L < V Y * B (k + 1)) :
    V ((L.drop k).take (Y.length + 1)) < V Y * 4294967296 ∧ V (L.drop (k + (Y.length + 1))) = 0 := by
  have s1 := V_split L k (by omega)
  have s2 := V_split (L.drop k) (Y.length + 1) (by simp; omega)
  rw [List.drop_drop] at s2
  have n1 := V_nonneg (hL.take k)
  have n2 := V_nonneg (hL.drop (k + (Y.length + 1)))
  have n3 := V_nonneg ((hL.drop k).take (Y.length + 1))
  have l1 := V_lt hY
  have hB := B_pos k
  have hd : V (L.drop k) < V Y * 4294967296 := by
    rcases ltge (V (L.drop k)) (V Y * 4294967296) with h' | h'
    · exact h'
    · have := Int.mul_le_mul_of_nonneg_left h' (Int.le_of_lt hB)
      simp only [B] at h
      rw [Int.mul_left_comm, Int.mul_comm (B k)] at this
      omega
  have hz : V (L.drop (k + (Y.length + 1))) = 0 := by
    rcases ltge 0 (V (L.drop (k + (Y.length + 1)))) with h' | h'
    · have := Int.mul_le_mul_of_nonneg_left (show 1 ≤ V (L.drop (k + (Y.length + 1))) by omega) (Int.le_of_lt (B_pos (Y.length + 1)))
      simp only [B] at this s2
      omega
    · omega
  rw [hz, Int.mul_zero, Int.add_zero] at s2
  exact ⟨by omega, hz⟩

theorem div_step (L Y Q X' : List Int) (k : Nat) (q U : Int) (hL : Ok L) (hY : Ok Y) (hk : k + (Y.length + 1) ≤ L.length) (hkQ : k < Q.length) (hl : X'.length = Y.length + 1)
    (hU : V L + V Y * V Q = U) (h : V L < V Y * B (k + 1)) (hQ : Q.getD k 0 = 0) (hX0 : 0 ≤ V X') (hX1 : V X' < V Y) (hX : V X' = V ((L.drop k).take (Y.length + 1)) - V Y * q) :
    V (L.take k ++ (X' ++ L.drop (k + (Y.length + 1)))) + V Y * V (Q.set k q) = U ∧ V (L.take k ++ (X' ++ L.drop (k + (Y.length + 1)))) < V Y * B k := by
  obtain ⟨p1, p2⟩ := piece L Y k hL hY hk h
  have s1 := V_split L k (by omega)
  have s2 := V_split (L.drop k) (Y.length + 1) (by simp; omega)
  rw [List.drop_drop, p2, Int.mul_zero, Int.add_zero] at s2
  have l1 := V_lt (hL.take k)
  rw [show (L.take k).length = k by simp; omega] at l1
  rw [V_append, V_append, p2, Int.mul_zero, Int.add_zero, show (L.take k).length = k by simp; omega, V_set Q k q hkQ, hQ]
  rw [s2] at s1
  refine ⟨?_, ?_⟩
  · rw [hX, Int.mul_sub, ← hU, s1, Int.mul_add, Int.sub_zero, Int.mul_left_comm]
    omega
  · have := Int.mul_le_mul_of_nonneg_left (show V X' + 1 ≤ V Y by omega) (Int.le_of_lt (B_pos k))
    rw [Int.mul_add, Int.mul_one, Int.mul_comm (B k) (V Y)] at this
    omega

/-- All blocks that were there are as they were, but block g. -/
structure Grw (g : Nat) (w w' : World) : Prop where
  os : w'.os = w.os
  tape : w'.tape = w.tape
  output : w'.output = w.output
  size : w.heap.size ≤ w'.heap.size
  block : ∀ k, k < w.heap.size → k ≠ g → w'.heap[k]? = w.heap[k]?

theorem Grw.refl (g : Nat) (w : World) : Grw g w w := ⟨rfl, rfl, rfl, Nat.le_refl _, fun _ _ _ => rfl⟩
theorem Grw.ofBelow {g : Nat} {w w' : World} (h : Below w.heap.size w w') : Grw g w w' := ⟨h.os, h.tape, h.output, h.size, fun k hk _ => h.block k hk⟩
theorem Grw.more {g : Nat} {w a b : World} (h : Grw g w a) (k : Below a.heap.size a b) : Grw g w b :=
  ⟨k.os.trans h.os, k.tape.trans h.tape, k.output.trans h.output, Nat.le_trans h.size k.size, fun i hi hn => (k.block i (Nat.lt_of_lt_of_le hi h.size)).trans (h.block i hi hn)⟩
theorem Grw.but {g g' : Nat} {w a b : World} (h : Grw g w a) (k : But g' a b) (hg : g' = g ∨ w.heap.size ≤ g') : Grw g w b :=
  ⟨k.os.trans h.os, k.tape.trans h.tape, k.output.trans h.output, by rw [k.size]; exact h.size, fun i hi hn => (k.block i (by omega)).trans (h.block i hi hn)⟩
theorem Grw.below {g B : Nat} {w a : World} (h : Grw g w a) (hB : B ≤ g) (hw : B ≤ w.heap.size) : Below B w a :=
  ⟨h.os, h.tape, h.output, h.size, fun k hk => h.block k (by omega) (by omega)⟩
theorem Sl.grw {g : Nat} {w w' : World} {v : Value} {zs : List Int} (h : Sl w v zs) (hb : Grw g w w') (hne : v.ownBlock ≠ some g) : Sl w' v zs := by
  obtain ⟨hok, a, n, cap, rfl, hl, hc, hm, hn, hp⟩ := h
  refine ⟨hok, a, n, cap, rfl, hl, hc, hm, hn, fun h0 => ?_⟩
  obtain ⟨b, off, rfl, hlt, hcell⟩ := hp h0
  refine ⟨b, off, rfl, Nat.lt_of_lt_of_le hlt hb.size, fun i hi => ?_⟩
  have hbg : b ≠ g := by intro e; subst e; exact hne rfl
  rw [World.cell?_of_block (w := w) (a := ⟨b, off + i, none⟩) (hb.block b hlt hbg)]
  exact hcell i hi
end Go.Proofs.YtbmondbicnfcpaaDoor

/-
  limb.divide: the quotient, limb by limb; in left stays what is left.
-/
namespace Go.Proofs.YtbmondbicnfcpaaDoor
open Go.RowKit
set_option linter.unusedVariables false

def DividePost (w : World) (gl m n : Nat) (U v : Int) (e : Ending) (w' : World) : Prop :=
  ∃ g L Q, e = .returned (.slice (some ⟨g, 0, none⟩) (m - n) (m - n)) ∧ L.length = m ∧ Q.length = m - n ∧ Ok L ∧ Ok Q ∧ Row w' gl L ∧ Row w' g Q ∧ Grw gl w w' ∧ w.heap.size ≤ g ∧ V L + v * V Q = U ∧ V L < v

def DivRel (w : World) (gl m n : Nat) (U v : Int) (wr : World) (L Q : List Int) (k : Nat) : Prop :=
  L.length = m ∧ Q.length = m - n ∧ Ok L ∧ Ok Q ∧ Row wr gl L ∧ Row wr w.heap.size Q ∧ Grw gl w wr ∧ V L + v * V Q = U ∧ V L < v * B k ∧ (∀ j, j < k → Q.getD j 0 = 0)

set_option maxRecDepth 100000 in
set_option maxHeartbeats 4000000 in
theorem divide_any (gl m : Nat) (L0 : List Int) (vy : Value) (Y : List Int) (w : World) (hrow : Row w gl L0) (hLok : Ok L0) (hm : L0.length = m) (hy : Sl w vy Y) (hne : vy.ownBlock ≠ some gl) (h0 : 0 < Y.length) (hmn : Y.length < m) (hbig : m ≤ 1000000)
    (hY : 0 < Y.getD (Y.length - 1) 0) (hlt : V L0 < V Y * B (m - Y.length)) :
    Calls Tryd.prog 139 #[.slice (some ⟨gl, 0, none⟩) m m, vy] w fun e w' => DividePost w gl m Y.length (V L0) (V Y) e w' := by
  obtain ⟨py, cy, rfl⟩ := hy.shape
  have hgl := hrow.lt
  go_enter Tryd.func139, Tryd.ntmps139
  go_wp2_with fail
  go_step3
  go_wp2_with (first | (at_make; refine wpList_make_u32 rfl _ _ rfl _ _ (m - Y.length) rfl rfl (by omega) (by omega) (by omega) ?_; intro w1 hrow1 hbel1) | fail)
  go_step3
  go_wp2_with fail
  have hstart : DivRel w gl m Y.length (V L0) (V Y) w1 L0 (zer (m - Y.length)) (m - Y.length) := by
    refine ⟨hm, zer_len _, hLok, zer_ok _, hrow.below hbel1 hgl, hrow1, Grw.ofBelow hbel1, by rw [zer_V]; omega, hlt, fun j _ => zer_at _ _⟩
  clear hrow hLok hlt hrow1 hbel1
  go_loopg [6] (m - Y.length) (fun gk at_ wr => at_ = .int .i64 ((gk : Int) - 1) ∧ gk ≤ m - Y.length ∧ ∃ L Q, DivRel w gl m Y.length (V L0) (V Y) wr L Q gk)
  case atStart => exact ⟨by go_num, Nat.le_refl _, _, _, hstart⟩
  case round =>
    obtain ⟨rfl, hgk, L, Q, hR⟩ := hrel
    clear hstart
    cases gk with
    | zero =>
      have HR : Hid _ := hR
      clear hR
      obtain ⟨hL1, hQ1, hLok, hQok, hrL, hrQ, hgrw, hU, hlt, hz⟩ := HR.out
      have HLT : Hid (V L < V Y) := by
        have e : V L < V Y * B 0 := hlt
        simp only [B, Int.mul_one] at e
        exact e
      have HU : Hid _ := hU
      clear hU hlt hz
      go_wp2_with fail
      try rw [Exit.noGoto_ret]
      go_ret
      exact ⟨w.heap.size, L, Q, rfl, hL1, hQ1, hLok, hQok, hrL, hrQ, hgrw, Nat.le_refl _, HU.out, HLT.out⟩
    | succ k =>
      rw [show ((k + 1 : Nat) : Int) - 1 = (k : Int) by omega]
      obtain ⟨hL1, hQ1, hLok, hQok, hrL, hrQ, hgrw, hU, hlt, hz⟩ := hR
      have HU : Hid _ := hU
      have HZ : Hid _ := hz
      have hkm : k + Y.length + 1 ≤ m := by omega
      have hsy := hy.grw hgrw hne
      obtain ⟨p1, p2⟩ := piece L Y k hLok hy.ok (by omega) hlt
      have HLT : Hid _ := hlt
      clear hU hz hlt
      have hn1 : k + Y.length + 1 - k = Y.length + 1 := by omega
      have hXl : ((L.drop k).take (Y.length + 1)).length = Y.length + 1 := by simp; omega
      have hXok : Ok ((L.drop k).take (Y.length + 1)) := (hLok.drop _).take _
      have hsx := hrL.sl hLok k (Y.length + 1) (m - k) (by omega) (by omega) (by omega)
      have HC : Hid (L = L.take k ++ ((L.drop k).take (Y.length + 1) ++ L.drop (k + (Y.length + 1)))) := cut3 L k (Y.length + 1)
      have hvpos : 0 < V Y := by
        have e1 := V_one Y (Y.length - 1) (by omega)
        have e2 := Int.mul_pos (B_pos (Y.length - 1)) hY
        have e3 := V_nonneg (hy.ok.take (Y.length - 1))
        omega
      have hq0 : 0 ≤ V ((L.drop k).take (Y.length + 1)) / V Y := Int.ediv_nonneg (V_nonneg hXok) (by omega)
      have hge := guess_ge _ Y hXok hy.ok hXl h0 hY _ hq0 (Int.ediv_mul_le _ (by omega)) p1
      have hgb := gs_bd _ Y hXok hY
      obtain ⟨X, hX⟩ : ∃ X, X = (L.drop k).take (Y.length + 1) := ⟨_, rfl⟩
      rw [← hX] at hXl hXok hsx HC hq0 hge hgb p1
      have HX : Hid _ := hX
      have HP1 : Hid _ := p1
      have HP2 : Hid _ := p2
      clear hX p1 p2
      go_wp2_with fail
      refine (guess_any _ _ X Y _ hsx hsy hXl h0 hY (by omega)).mono ?_
      rintro e w2 ⟨rfl, b2⟩
      have hrL2 := hrL.below b2 hrL.lt
      have hrQ2 := hrQ.below b2 hrQ.lt
      have hgrw2 := hgrw.more b2
      clear hsx hsy hrL hrQ hgrw b2
      obtain ⟨G, hG⟩ := Int.eq_ofNat_of_zero_le hgb.1
      rw [hG] at hge hgb ⊢
      have HG : Hid (V X / V Y ≤ (G : Int)) := hge
      clear hge hG hq0
      go_wp2_with fail
      go_loopg [8] G (fun g2 q_ wy => q_ = .int .u32 (g2 : Int) ∧ (g2 : Int) ≤ 4294967295 ∧ Hid (V X / V Y ≤ (g2 : Int)) ∧ Row wy gl L ∧ Row wy w.heap.size Q ∧ Grw gl w wy)
      case atStart => exact ⟨rfl, hgb.2, HG, hrL2, hrQ2, hgrw2⟩
      case round =>
        obtain ⟨rfl, hg2, HG2, hrL3, hrQ3, hgrw3⟩ := hrel
        clear hrL2 hrQ2 hgrw2 hgb HG
        cases gk with
        | zero =>
          have hXlt : V X < V Y := by
            have e := HG2.out
            have e2 := Int.lt_ediv_add_one_mul_self (V X) hvpos
            have e3 : V X / V Y + 1 ≤ 1 := by omega
            have e4 := Int.mul_le_mul_of_nonneg_right e3 (Int.le_of_lt hvpos)
            omega
          have HR : Hid (DivRel w gl m Y.length (V L0) (V Y) wr L Q k) := by
            have hst := div_step L Y Q X k 0 (V L0) hLok hy.ok (by omega) (by omega) hXl HU.out HLT.out (HZ.out k (by omega)) (V_nonneg hXok) hXlt (by rw [HX.out]; omega)
            rw [← HC.out] at hst
            exact ⟨hL1, hQ1, hLok, hQok, hrL3, hrQ3, hgrw3, HU.out, hst.2, fun j hj => HZ.out j (by omega)⟩
          clear hXlt
          go_wp2_with fail
          go_roundg k
          case measure => omega
          case rel => exact ⟨by go_num, by omega, L, Q, HR.out⟩
        | succ q =>
          have hqb : ((q + 1 : Nat) : Int) = (q : Int) + 1 := by omega
          have hsy3 := hy.grw hgrw3 hne
          rw [hqb] at hg2 ⊢
          clear hqb
          have hrL4 := hrL3
          rw [HC.out] at hrL4
          go_wp2_with fail
          refine (take_at gl k (Y.length + 1) (m - k) (L.take k) X (L.drop (k + (Y.length + 1))) _ Y ((q : Int) + 1) _ hrL4 (by simp; omega) hXl hXok (by omega) (by omega) hsy3 hne (by omega) (by omega)).mono ?_
          rintro e w3 ⟨hbut, X', c, rfl, hXl', hXok', hrow3, hc0, hc1, hV⟩
          have hten := take_enough X X' Y _ c hXok' hXl hXl' hc0 hV
          have hrQ4 := hbut.row hrQ3 (by omega)
          have hgrw4 := hgrw3.but hbut (.inl rfl)
          by_cases hc : c = 0
          · obtain ⟨t1, t2⟩ := hten.1 hc
            have hlast : V X' < V Y := by
              have e := HG2.out
              have e2 := Int.lt_ediv_add_one_mul_self (V X) hvpos
              have e3 := Int.mul_le_mul_of_nonneg_right (show V X / V Y + 1 ≤ (q : Int) + 1 + 1 by omega) (Int.le_of_lt hvpos)
              rw [Int.add_mul ((q : Int) + 1), Int.one_mul, Int.mul_comm ((q : Int) + 1)] at e3
              omega
            have hcq := hrQ4.cell k (by omega)
            have hfq := hrQ4.frozen k
            have hkq : (k : Int) < ((m - Y.length : Nat) : Int) := by omega
            have HR : Hid (DivRel w gl m Y.length (V L0) (V Y) (w3.setCell ⟨w.heap.size, k, none⟩ (.int .u32 ((q : Int) + 1))) (L.take k ++ (X' ++ L.drop (k + (Y.length + 1)))) (Q.set k ((q : Int) + 1)) k) := by
              have hst := div_step L Y Q X' k ((q : Int) + 1) (V L0) hLok hy.ok (by omega) (by omega) (by omega) HU.out HLT.out (HZ.out k (by omega)) (V_nonneg hXok') hlast (by rw [t1, HX.out])
              have hb2 := (But.refl w.heap.size w3).setCell k (.int .u32 ((q : Int) + 1))
              refine ⟨by simp; omega, by simpa using hQ1, (hLok.take _).append (hXok'.append (hLok.drop _)), hQok.set _ (by omega) (by omega), hb2.row hrow3 (by omega), hrQ4.set k _, hgrw4.but hb2 (.inr (Nat.le_refl _)), hst.1, hst.2, fun j hj => ?_⟩
              have := HZ.out j (by omega)
              simp only [List.getD_eq_getElem?_getD] at this ⊢
              rw [List.getElem?_set_ne (by omega)]
              exact this
            subst hc
            have hcc : ((0 : Int) == 0) = true := rfl
            clear hV hten t1 t2 hlast hrow3 hrL3 hrL4 hrQ3 hgrw3 hsy3
            go_wp2_with fail
            go_roundg k
            case measure => omega
            case rel => exact ⟨by go_num, by omega, _, _, HR.out⟩
          · have hcc : (c == 0) = false := beq_eq_false_iff_ne.2 hc
            have HB := hten.2 hc
            have HG3 : Hid (V X / V Y ≤ (q : Int)) := by
              show V X / V Y ≤ (q : Int)
              have e := Int.ediv_lt_of_lt_mul hvpos (show V X < ((q : Int) + 1) * V Y by rw [Int.mul_comm]; exact HB)
              omega
            have HV : Hid _ := hV
            have hsy4 := hy.grw hgrw4 hne
            clear hV hten HB hrL3 hrL4 hrQ3 hgrw3 hsy3
            go_wp2_with fail
            refine (addT_at gl k (Y.length + 1) (m - k) (L.take k) X' (L.drop (k + (Y.length + 1))) _ Y ((q : Int) + 1) _ hrow3 (by simp; omega) (by omega) hXok' (by omega) (by omega) hsy4 hne (by omega) (by omega)).mono ?_
            rintro e w4 ⟨rfl, hbut4, X'', d, hXl'', hXok'', hrow4, hd0, hd1, hV4⟩
            have hback := back X X' X'' Y _ c d hXok hXok'' hXl' hXl'' HV.out hV4
            rw [hback, ← HC.out] at hrow4
            have hrQ5 := hbut4.row hrQ4 (by omega)
            have hgrw5 := hgrw4.but hbut4 (.inl rfl)
            clear hV4 hback hbut4 hXl'' hXok'' hrow3 hbut
            go_wp2_with fail
            go_roundg q
            case measure => omega
            case rel => exact ⟨by go_num, by omega, HG3, hrow4, hrQ5, hgrw5⟩
end Go.Proofs.YtbmondbicnfcpaaDoor

/-
  limb.Div: the quotient, cut, and what is left; 0, 0, if the divisor is 0.
-/
namespace Go.Proofs.YtbmondbicnfcpaaDoor
open Go.RowKit
set_option linter.unusedVariables false

def DivPost (w : World) (x y : Int) (l : Nat) (e : Ending) (w' : World) : Prop :=
  ∃ v1 v2 z1 z2, e = .returned (.tuple #[v1, v2]) ∧ Sl w' v1 z1 ∧ Sl w' v2 z2 ∧ Nm z1 ∧ Nm z2 ∧ z1.length ≤ l ∧ z2.length ≤ l ∧ Below w.heap.size w w' ∧ (y = 0 → V z1 = 0 ∧ V z2 = 0) ∧ (y ≠ 0 → V z1 * y + V z2 = x ∧ V z2 < y)

/-- The same, and the quotient lies in new memory. -/
def DivPostN (w : World) (x y : Int) (l : Nat) (e : Ending) (w' : World) : Prop :=
  ∃ v1 v2 z1 z2, e = .returned (.tuple #[v1, v2]) ∧ Sl w' v1 z1 ∧ Sl w' v2 z2 ∧ Nm z1 ∧ Nm z2 ∧ z1.length ≤ l ∧ z2.length ≤ l ∧ Below w.heap.size w w' ∧ (y = 0 → V z1 = 0 ∧ V z2 = 0) ∧ (y ≠ 0 → V z1 * y + V z2 = x ∧ V z2 < y) ∧ (∀ k, v1.ownBlock = some k → w.heap.size ≤ k)

theorem raise_small (va : Value) (a : List Int) (z : Int) (p : Nat) (w : World) (hz : z = (p : Int)) (ha : Sl w va a) (hla : a.length ≤ 1000000) (hp : p < 32) :
    Calls Tryd.prog 138 #[va, .int .i64 z] w fun e w' => RaisePost w (V a * T p) (a.length + 1) e w' := by
  subst hz
  have h := raise_any va a p 0 p w ha hla (by omega) hp (by omega)
  rw [Nat.zero_add] at h
  exact h

theorem len_le_of {Y : List Int} {n : Nat} (hY : Ok Y) (hn : Nm Y) (h : V Y < B n) : Y.length ≤ n := by
  rcases Nat.lt_or_ge n Y.length with h1 | h1
  · have h2 := V_ge hY hn (by omega)
    have h3 := B_mono (show n ≤ Y.length - 1 by omega)
    omega
  · exact h1

theorem lift_lt {C : List Int} (hC : Ok C) (h0 : 0 < C.length) (hne : C.getD (C.length - 1) 0 ≠ 0) (p m : Nat) (hm : IsLen (C.getD (C.length - 1) 0) m) (hp : p + m = 32) : V C * T p < B C.length := by
  have h := isLen_V hC h0 hm hne
  rcases h with ⟨_, h2⟩ | ⟨h1, h2, h3⟩
  · have e : m = 0 := by omega
    subst e
    rcases hm with ⟨h, _⟩ | ⟨h, _⟩
    · exact absurd h hne
    · omega
  · have e := Int.mul_lt_mul_of_pos_right h3 (T_pos p)
    rw [← T_add, show (C.length - 1) * 32 + m + p = 32 * C.length by omega, T_32] at e
    exact e

theorem div_room (A C Y : List Int) (p : Nat) (hA : Ok A) (hC : Ok C) (hnC : Nm C) (h0 : 0 < C.length) (hCA : C.length ≤ A.length) (hYC : Y.length ≤ C.length) (hY : V Y = V C * T p) : V A * T p < V Y * B (A.length + 1 - Y.length) := by
  have h1 := V_lt hA
  have h2 := V_ge hC hnC h0
  have h3 := T_pos p
  have h4 := B_mono (show A.length + 1 - C.length ≤ A.length + 1 - Y.length by omega)
  have h5 : B (C.length - 1) * B (A.length + 1 - C.length) = B A.length := by rw [← B_add]; congr 1; omega
  have h6 : B (C.length - 1) * B (A.length + 1 - C.length) ≤ V C * B (A.length + 1 - Y.length) := Int.mul_le_mul h2 h4 (Int.le_of_lt (B_pos _)) (V_nonneg hC)
  have h7 := Int.mul_lt_mul_of_pos_right (show V A < V C * B (A.length + 1 - Y.length) by omega) h3
  rw [hY, Int.mul_assoc, Int.mul_comm (T p), ← Int.mul_assoc]
  exact h7

theorem div_fin (x y t l q : Int) (ht : 0 < t) (hl : 0 ≤ l) (h1 : l + y * t * q = x * t) (h2 : l < y * t) : q * y + l / t = x ∧ l / t < y := by
  have e : l = (x - y * q) * t := by
    rw [Int.sub_mul, ← h1, Int.mul_assoc y t q, Int.mul_comm t q, ← Int.mul_assoc]; omega
  have e2 : l / t = x - y * q := by rw [e]; exact Int.mul_ediv_cancel _ (by omega)
  refine ⟨by rw [e2, Int.mul_comm]; omega, ?_⟩
  exact Int.ediv_lt_of_lt_mul ht h2

set_option maxRecDepth 100000 in
set_option maxHeartbeats 4000000 in
theorem div_new (va vb : Value) (a b : List Int) (w : World) (ha : Sl w va a) (hb : Sl w vb b) (hla : a.length ≤ 100000) (hlb : b.length ≤ 100000) :
    Calls Tryd.prog 98 #[va, vb] w fun e w' => DivPostN w (V a) (V b) (a.length + 1) e w' := by
  obtain ⟨aa, acap, rfl⟩ := ha.shape
  obtain ⟨ba, bcap, rfl⟩ := hb.shape
  go_enter Tryd.func98, Tryd.ntmps98
  go_wp2_with fail
  refine (trim_any _ b _ hb).mono ?_
  rintro e w' ⟨rfl, v2, n2, rfl, hn2, hs2, hnm2, hv2, -, -, hk2⟩
  have H2 : Hid (V (b.take n2) = V b) := hv2
  have hl2 : (b.take n2).length ≤ b.length := by simp; omega
  clear hv2
  generalize b.take n2 = C at *
  obtain ⟨p2, c2, rfl⟩ := hs2.shape
  by_cases h0 : C.length = 0
  · have hb0 : ((C.length : Int) == 0) = true := beq_iff_eq.2 (by omega)
    have HF : Hid (V b = 0) := by
      show V b = 0
      rw [← H2.out, List.eq_nil_of_length_eq_zero h0]; rfl
    go_wp2_with fail
    go_ret2
    exact ⟨_, _, [], [], rfl, Sl.nil _, Sl.nil _, Nm_nil, Nm_nil, Nat.zero_le _, Nat.zero_le _, Below.refl _ _, fun _ => ⟨rfl, rfl⟩, fun h => absurd HF.out h, fun k hk => by cases hk⟩
  · have hb0 : ((C.length : Int) == 0) = false := beq_eq_false_iff_ne.2 (by omega)
    have hCpos : 0 < V C := by
      have h1 := V_ge hs2.ok hnm2 (by omega)
      have h2 := B_pos (C.length - 1)
      omega
    go_wp2_with fail
    refine (cmp_any _ _ a C _ ha hs2).mono ?_
    rintro e w1 ⟨rfl, b1⟩
    replace ha := ha.below b1
    replace hs2 := hs2.below b1
    by_cases hlt : V a < V C
    · rw [sg_lt hlt]
      have HLT : Hid _ := hlt
      clear hlt
      go_wp2_with fail
      refine (norm_any _ a _ ha (by omega)).mono ?_
      intro e w3 hN
      obtain ⟨v3, z3, rfl, s3, m3, x3, l3, b3, -⟩ := hN.num (by omega)
      have X3 : Hid _ := x3
      have BF := b1.trans (b3.mono b1.size)
      clear x3 hN
      go_wp2_with fail
      go_ret2
      exact ⟨_, _, [], z3, rfl, Sl.nil _, s3, Nm_nil, m3, Nat.zero_le _, by omega, BF, fun h => by rw [← H2.out] at h; omega, fun _ => ⟨by simp [V, X3.out], by rw [X3.out, ← H2.out]; exact HLT.out⟩, fun k hk => by cases hk⟩
    · have hsg : 0 ≤ sg (V a) (V C) := by
        rcases Int.lt_trichotomy (V a) (V C) with h | h | h
        · exact absurd h hlt
        · rw [h, sg_self]; omega
        · rw [sg_gt h]; omega
      have HGE : Hid (V C ≤ V a) := by show V C ≤ V a; omega
      generalize sg (V a) (V C) = s at *
      clear hlt
      obtain ⟨bb, off, rfl, hcell⟩ := hs2.at (C.length - 1) (by omega)
      have hx := hs2.ok.getD (C.length - 1)
      have hne := hnm2 (by omega)
      have hu := isLen_u32 _ hx.1 hx.2
      have hbit : 0 < Lib.bitLen (C.getD (C.length - 1) 0).toNat := by
        rcases hu.1 with ⟨h, _⟩ | ⟨h, _⟩
        · exact absurd h hne
        · exact h
      obtain ⟨p, hp⟩ : ∃ p, p = 32 - Lib.bitLen (C.getD (C.length - 1) 0).toNat := ⟨_, rfl⟩
      have hlift := lift_lt hs2.ok (by omega) hne p _ hu.1 (by omega)
      have hp32 : p < 32 := by omega
      have hpz : 32 - (Lib.bitLen (C.getD (C.length - 1) 0).toNat : Int) = (p : Int) := by omega
      have HL : Hid _ := hlift
      clear hlift hu hbit hp hne
      generalize C.getD (C.length - 1) 0 = t at *
      have hi1 : ((C.length : Int) - 1).toNat = C.length - 1 := by omega
      have hi2 : (0 : Int) ≤ (C.length : Int) - 1 := by omega
      go_wp2_with fail
      refine (lz32_any t _ hx.1 (by omega)).mono ?_
      rintro e w' ⟨rfl, rfl⟩
      rw [hpz]
      clear hpz hcell hx hi1 hi2
      go_wp2_with fail
      refine (trim_any _ a _ ha).mono ?_
      rintro e w' ⟨rfl, v4, n4, rfl, hn4, hs4, hnm4, hv4, -, -, hk4⟩
      have H4 : Hid (V (a.take n4) = V a) := hv4
      have hl4 : (a.take n4).length ≤ a.length := by simp; omega
      clear hv4
      generalize a.take n4 = A at *
      obtain ⟨p4, c4, rfl⟩ := hs4.shape
      have hCA : C.length ≤ A.length := by
        rcases Nat.lt_or_ge A.length C.length with h | h
        · have h1 := lt_of_V hs4.ok hs2.ok hnm2 h
          have h2 := HGE.out
          rw [← H4.out] at h2
          omega
        · exact h
      go_wp2_with fail
      refine (raise_small _ A (p : Int) p _ rfl hs4 (by omega) hp32).mono ?_
      rintro e w5 ⟨gl, L0, rfl, hL0l, hL0ok, hrowL, hL0V, b5, hgl⟩
      replace hs2 := hs2.below b5
      have HL0 : Hid _ := hL0V
      have B5 := b1.trans (b5.mono b1.size)
      clear hL0V
      go_wp2_with fail
      refine (raise_at _ C (p : Int) p _ rfl hs2 (by omega) (by omega)).mono ?_
      rintro e w6 ⟨v6, Z6, rfl, hs6, hV6, hl6, b6, hg6⟩
      have HV6 : Hid _ := hV6
      have hrowL6 := hrowL.below b6 hrowL.lt
      have B6 := B5.trans (b6.mono B5.size)
      have hgl5 := hrowL.lt
      clear hV6 hrowL
      go_wp2_with fail
      refine (trim_any _ Z6 _ hs6).mono ?_
      rintro e w' ⟨rfl, v7, n7, rfl, hn7, hs7, hnm7, hv7, -, ho7, -⟩
      have HY : Hid (V (Z6.take n7) = V C * T p) := hv7.trans HV6.out
      have hl7 : (Z6.take n7).length ≤ Z6.length := by simp; omega
      clear hv7
      generalize Z6.take n7 = Y at *
      have hown : v7.ownBlock ≠ some gl := by
        intro e
        rcases ho7 with h | ⟨h, _⟩
        · rw [e] at h; cases h
        · rw [e] at h
          have := hg6 _ h.symm
          omega
      have hYC : Y.length ≤ C.length := len_le_of hs7.ok hnm7 (by rw [HY.out]; exact HL.out)
      have hYpos : 0 < Y.length := by
        rcases Nat.eq_zero_or_pos Y.length with h | h
        · have h1 := HY.out
          rw [List.eq_nil_of_length_eq_zero h] at h1
          have h2 := Int.mul_pos hCpos (T_pos p)
          simp only [V] at h1
          omega
        · exact h
      have hYtop : 0 < Y.getD (Y.length - 1) 0 := by
        have h1 := hnm7 hYpos
        have h2 := hs7.ok.getD (Y.length - 1)
        omega
      have hroom := div_room A C Y p hs4.ok hs2.ok hnm2 (by omega) hCA hYC HY.out
      rw [← HL0.out] at hroom
      have HROOM : Hid _ := hroom
      clear hroom ho7 hg6 hl7 hn7 HV6 hs6
      go_wp2_with fail
      refine (divide_any gl (A.length + 1) L0 _ Y _ hrowL6 hL0ok hL0l hs7 hown hYpos (by omega) (by omega) hYtop HROOM.out).mono ?_
      rintro e w8 ⟨gq, L, Q, rfl, hLl, hQl, hLok, hQok, hrowL8, hrowQ8, hgrw8, hgq, hU8, hlt8⟩
      rw [HL0.out, HY.out, H4.out, H2.out] at hU8
      rw [HY.out, H2.out] at hlt8
      have HFIN : Hid _ := div_fin (V a) (V b) (T p) (V L) (V Q) (T_pos p) (V_nonneg hLok) hU8 hlt8
      have B8 := B6.trans (hgrw8.below (B := w.heap.size) (by have := b1.size; omega) B6.size)
      have hslQ := hrowQ8.all hQok (by omega)
      have hslL := hrowL8.all hLok (by omega)
      rw [hQl] at hslQ
      rw [hLl] at hslL
      have hQl' : Q.length ≤ a.length + 1 := by omega
      have hLl' : L.length ≤ a.length + 1 := by omega
      clear hU8 hlt8 hrowQ8 hrowL8 hgrw8 HROOM hrowL6 hs7 HL HL0 HY
      go_wp2_with fail
      refine (trim_any _ Q _ hslQ).mono ?_
      rintro e w' ⟨rfl, v9, n9, rfl, hn9, hs9, hnm9, hv9, -, ho9, -⟩
      have HO9 : Hid (∀ k, v9.ownBlock = some k → w.heap.size ≤ k) := by
        intro k hk
        rcases ho9 with h | ⟨h, _⟩
        · rw [hk] at h; cases h
        · rw [hk] at h
          simp [Value.ownBlock] at h
          have := B6.size
          omega
      clear ho9
      have H9 : Hid (V (Q.take n9) = V Q) := hv9
      have hl9 : (Q.take n9).length ≤ Q.length := by simp; omega
      clear hv9
      generalize Q.take n9 = Q' at *
      go_wp2_with fail
      refine (trim_any _ L _ hslL).mono ?_
      rintro e w' ⟨rfl, v10, n10, rfl, hn10, hs10, hnm10, hv10, -, -, -⟩
      have H10 : Hid (V (L.take n10) = V L) := hv10
      have hl10 : (L.take n10).length ≤ L.length := by simp; omega
      clear hv10
      generalize L.take n10 = L' at *
      go_wp2_with fail
      refine (lower_at _ L' (p : Int) p _ rfl hs10 (by omega) (by omega)).mono ?_
      rintro e w11 ⟨v11, Z11, rfl, hs11, hV11, hl11, b11, -⟩
      have H11 : Hid _ := hV11
      replace hs9 := hs9.below b11
      have B11 := B8.trans (b11.mono B8.size)
      clear hV11
      go_wp2_with fail
      refine (trim_any _ Z11 _ hs11).mono ?_
      rintro e w' ⟨rfl, v12, n12, rfl, hn12, hs12, hnm12, hv12, -, -, -⟩
      have H12 : Hid (V (Z11.take n12) = V L / T p) := by
        show V (Z11.take n12) = V L / T p
        rw [hv12, H11.out, H10.out]
      have hl12 : (Z11.take n12).length ≤ Z11.length := by simp; omega
      clear hv12
      generalize Z11.take n12 = R at *
      go_wp2_with fail
      go_ret2
      refine ⟨_, _, Q', R, rfl, hs9, hs12, hnm9, hnm12, by omega, by omega, B11, fun h => ?_, fun _ => ?_, HO9.out⟩
      · rw [← H2.out] at h; omega
      · rw [H9.out, H12.out]; exact HFIN.out

theorem div_any (va vb : Value) (a b : List Int) (w : World) (ha : Sl w va a) (hb : Sl w vb b) (hla : a.length ≤ 100000) (hlb : b.length ≤ 100000) :
    Calls Tryd.prog 98 #[va, vb] w fun e w' => DivPost w (V a) (V b) (a.length + 1) e w' := by
  refine (div_new va vb a b w ha hb hla hlb).mono ?_
  rintro e w' ⟨v1, v2, z1, z2, h1, h2, h3, h4, h5, h6, h7, h8, h9, h10, -⟩
  exact ⟨v1, v2, z1, z2, h1, h2, h3, h4, h5, h6, h7, h8, h9, h10⟩
end Go.Proofs.YtbmondbicnfcpaaDoor
