import Derived.Test.YtbmondbicnfcpaaDoorZNumC
import Derived.Laws.BytesArg
import Derived.Laws.OwnMore
import Derived.Maps.AppendAt
import Derived.RegionTactic
import Derived.BigRegion
/-
  Plain mathematics of decimal digits: dg n are the signs of n's digits, the lowest first; decL x is the text of an integer.
-/
namespace Go.Proofs.YtbmondbicnfcpaaDoor
open Go.RowKit
set_option linter.unusedVariables false

/-- The signs of a number's digits, the lowest first. -/
def dgN : Nat → Nat → List Int
  | 0, n => [48 + (n : Int)]
  | k + 1, n => if n < 10 then [48 + (n : Int)] else (48 + ((n % 10 : Nat) : Int)) :: dgN k (n / 10)

theorem dgN_eq : ∀ (k j n : Nat), n ≤ k → n ≤ j → dgN k n = dgN j n := by
  intro k
  induction k with
  | zero => intro j n h _; cases j with
    | zero => rfl
    | succ j => have e : n < 10 := by omega
                simp only [dgN, if_pos e]
  | succ k ih => intro j n h hj; cases j with
    | zero => have e : n < 10 := by omega
              simp only [dgN, if_pos e]
    | succ j => by_cases e : n < 10
                · simp only [dgN, if_pos e]
                · simp only [dgN, if_neg e]; rw [ih j (n / 10) (by omega) (by omega)]

/-- The signs of a number's digits, the lowest first. -/
def dg (n : Nat) : List Int := dgN n n

theorem dg_small {n : Nat} (h : n < 10) : dg n = [48 + (n : Int)] := by
  unfold dg; cases n with
  | zero => rfl
  | succ n => simp only [dgN, if_pos h]
theorem dg_big {n : Nat} (h : ¬ n < 10) : dg n = (48 + ((n % 10 : Nat) : Int)) :: dg (n / 10) := by
  unfold dg; cases n with
  | zero => omega
  | succ n => simp only [dgN, if_neg h]; rw [dgN_eq n ((n + 1) / 10) _ (by omega) (by omega)]

theorem dg_ok : ∀ (k n : Nat), n ≤ k → ∀ z ∈ dg n, 48 ≤ z ∧ z ≤ 57 := by
  intro k
  induction k with
  | zero =>
    intro n hn z hz
    rw [dg_small (by omega)] at hz
    simp at hz; omega
  | succ k ih =>
    intro n hn z hz
    by_cases h : n < 10
    · rw [dg_small h] at hz
      simp at hz; omega
    · rw [dg_big h] at hz
      rcases List.mem_cons.1 hz with e | e
      · omega
      · exact ih (n / 10) (by omega) z e

theorem dg_len : ∀ (k n : Nat), n < 10 ^ k → 0 < k → 0 < (dg n).length ∧ (dg n).length ≤ k := by
  intro k
  induction k with
  | zero => intro n _ h; omega
  | succ k ih =>
    intro n hn _
    by_cases h : n < 10
    · rw [dg_small h]; simp
    · rw [dg_big h]
      have hk : 0 < k := by
        refine Nat.pos_of_ne_zero fun e => ?_
        subst e
        simp at hn; omega
      have := ih (n / 10) (by rw [Nat.pow_succ] at hn; omega) hk
      simp; omega

/-- The text of an integer: the signs of its digits, behind a minus, if it is below 0. -/
def decL (x : Int) : List Int := if x < 0 then 45 :: (dg x.natAbs).reverse else (dg x.natAbs).reverse

/-- The number of signs of digits, the lowest first. -/
def undg : List Int → Int
  | [] => 0
  | z :: t => (z - 48) + 10 * undg t

theorem undg_dg : ∀ (k n : Nat), n ≤ k → undg (dg n) = (n : Int) := by
  intro k
  induction k with
  | zero =>
    intro n hn
    rw [dg_small (by omega)]
    simp [undg]; omega
  | succ k ih =>
    intro n hn
    by_cases h : n < 10
    · rw [dg_small h]; simp [undg]; omega
    · rw [dg_big h]
      simp only [undg]
      rw [ih (n / 10) (by omega)]
      omega

theorem dg_inj {m n : Nat} (h : dg m = dg n) : m = n := by
  have h1 := undg_dg m m (Nat.le_refl _)
  have h2 := undg_dg n n (Nat.le_refl _)
  rw [h, h2] at h1
  omega

theorem B12_dec : B 12 < 10 ^ 116 := by decide +kernel
end Go.Proofs.YtbmondbicnfcpaaDoor

/-
  num.digits: the signs of a size's digits, the lowest first.
-/
namespace Go.Proofs.YtbmondbicnfcpaaDoor
open Go.RowKit
set_option linter.unusedVariables false

/-- A row of bytes of the call's own, with whatever room behind. -/
def OwnB (w : World) (base : Nat) (v : Value) (D : List Int) : Prop := w.ownsRow base 5 1 v D.length (D.map (Value.int .u8))

theorem OwnB.under {w w' : World} {base : Nat} {v : Value} {D : List Int} (h : OwnB w base v D) (hb : Below w.heap.size w w') : OwnB w' base v D := by
  obtain ⟨h1, h2⟩ := h
  refine ⟨h1, ?_⟩
  rcases h2 with h3 | ⟨g, cap, cur, rfl, hb1, hh, h4⟩
  · exact .inl h3
  · exact .inr ⟨g, cap, cur, rfl, hb1, by rw [hb.block g (Array.getElem?_eq_some_iff.1 hh).1]; exact hh, h4⟩

theorem Tryd.infoU8 : (Tryd.prog.info? 5).map (fun i => (i.zero, i.size, i.bytes)) = some (some (.int .u8 0), 1, 1) := by kernel_rfl

def DgPost (w : World) (A : Nat) (e : Ending) (w' : World) : Prop := ∃ v, e = .returned v ∧ OwnB w' w.heap.size v (dg A) ∧ Below w.heap.size w w'

theorem Sl.grown {w w' : World} {v : Value} {zs : List Int} {row : Option Nat} (h : Sl w v zs) (hg : w.grownBy w' row) (hne : 0 < zs.length → row = none ∨ v.ownBlock ≠ row) : Sl w' v zs := by
  obtain ⟨hok, a, n, cap, rfl, hl, hc, hm, hn, hp⟩ := h
  refine ⟨hok, a, n, cap, rfl, hl, hc, hm, hn, fun h0 => ?_⟩
  obtain ⟨b, off, rfl, hlt, hcell⟩ := hp h0
  refine ⟨b, off, rfl, Nat.lt_of_lt_of_le hlt hg.size, fun i hi => ?_⟩
  have hbr : row ≠ some b := by
    rcases hne (by omega) with h | h
    · rw [h]; simp
    · intro e; exact h e.symm
  rw [World.cell?_of_block (w := w) (a := ⟨b, off + i, none⟩) (hg.block b hlt hbr.symm)]
  exact hcell i hi

theorem OwnB.more {w : World} {base : Nat} {v : Value} {D : List Int} {z : Int} (h : w.ownsRow base 5 1 v (D.length + 1) (D.map (Value.int .u8) ++ [Value.int .u8 z])) : OwnB w base v (D ++ [z]) := by
  unfold OwnB
  simpa using h

/-- The outer loop's relation. -/
def DgOut (w : World) (A gk : Nat) (vl vo : Value) (wr : World) : Prop := ∃ L D, Sl wr vl L ∧ V L = (gk : Int) ∧ L.length ≤ 200 ∧ OwnB wr w.heap.size vo D ∧ dg A = D ++ dg gk ∧ Below w.heap.size w wr

/-- The inner loop's relation. -/
def DgIn (w : World) (A rr gk vv : Nat) (vo : Value) (wr : World) : Prop := ∃ D, OwnB wr w.heap.size vo D ∧ vv < 10 ^ gk ∧ dg A = D ++ dg (rr * 10 ^ gk + vv) ∧ (gk < 9 → 0 < rr * 10 ^ gk + vv) ∧ Below w.heap.size w wr

set_option maxRecDepth 100000 in
set_option maxHeartbeats 8000000 in
theorem digits_any (va : Value) (a : List Int) (A : Nat) (w : World) (ha : Sl w va a) (hA : V a = (A : Int)) (hl : a.length ≤ 200) (hd : (dg A).length ≤ 1000) :
    Calls Tryd.prog 121 #[va] w fun e w' => DgPost w A e w' := by
  obtain ⟨i, hi, hz0, hz1, hz2⟩ := info_parts Tryd.infoU8
  have HLn : Hid _ := hd
  clear hd
  go_enter Tryd.func121, Tryd.ntmps121
  go_wp2_with fail
  go_step3
  go_wp2_with fail
  go_step3
  go_wp2_with fail
  go_loopg [0, 3] A (fun gk l out wr => DgOut w A gk l out wr)
  case atStart => exact ⟨a, [], ha, hA, hl, World.ownsRow_nil _ _ _ _, rfl, Below.refl _ _⟩
  case round =>
    obtain ⟨L, D, hL, hVL, hlL, hown, hdg, hbel⟩ := hrel
    obtain ⟨pl, cl, hshape⟩ := hL.shape
    have sl := sl_lit wr 1000000000 (by decide) (by decide)
    have hb := (Below.refl wr.heap.size wr).alloc (Nat.le_refl _) (.cells #[.int .u32 1000000000] 59)
    have HD : Hid _ := hdg
    have HV : Hid _ := hVL
    clear hdg hVL hshape
    go_wp2_with fail
    refine (div_new _ _ L [1000000000] _ (hL.below hb) sl (by omega) (by simp)).mono ?_
    rintro e w1 ⟨vq, vr, zq, zr, rfl, sq, sr, mq, mr, lq, lr, b1, -, e1, hnew⟩
    have hapart : ∀ k, u3.ownBlock = some k → vq.ownBlock ≠ some k := by
      intro k hk e
      have h1 := hnew k e
      have h2 := (World.ownsRow.lt hown k hk).2
      simp at h1
      omega
    clear hnew
    obtain ⟨e2, e3⟩ := e1 (by decide)
    have hown1 := (OwnB.under hown hb).under b1
    have hbel1 := (hbel.trans (hb.mono hbel.size)).trans (b1.mono (Nat.le_trans hbel.size hb.size))
    obtain ⟨rr, hrr⟩ := Int.eq_ofNat_of_zero_le (V_nonneg sq.ok)
    obtain ⟨low, hlow⟩ := Int.eq_ofNat_of_zero_le (V_nonneg sr.ok)
    have e4 : V [1000000000] = 1000000000 := by decide
    rw [e4, hrr, hlow] at e2
    rw [e4, hlow] at e3
    have hgk : gk = rr * 10 ^ 9 + low := by have := HV.out; omega
    have hlow9 : low < 10 ^ 9 := by omega
    have hzr : zr.length ≤ 12 := len_le_of sr.ok mr (by rw [hlow]; have h1 := B_mono (show 1 ≤ 12 by omega); have e : B 1 = 4294967296 := (by decide); omega)
    have hzq : zq.length ≤ 200 := by
      have h1 := V_lt hL.ok
      have h2 := len_le_of sq.ok mq (n := L.length) (by rw [hrr]; have := HV.out; omega)
      omega
    clear e1 e2 e3 e4 hown hbel hb sl b1 lr lq
    have HRR : Hid (V zq = (rr : Int)) := hrr
    have HLOW : Hid (V zr = (low : Int)) := hlow
    clear hrr hlow
    go_wp2_with fail
    refine (signed_any false _ zr _ sr).mono ?_
    intro e w2 h2
    obtain ⟨v2, rfl, i2, b2⟩ := h2.isN mr hzr
    clear h2
    go_wp2_with fail
    refine (int_any _ _ _ i2.nx).mono ?_
    rintro e w3 ⟨rfl, b3⟩
    have hi3 : intS (Z false (V zr)) = some (low : Int) := by
      rw [show Z false (V zr) = V zr from rfl, HLOW.out]
      unfold intS
      rw [if_pos (by omega)]
    rw [hi3]
    have b23 := b2.trans (b3.mono b2.size)
    have hown3 := OwnB.under hown1 b23
    have hbel3 := hbel1.trans (b23.mono hbel1.size)
    have sq3 := sq.below b23
    clear hi3 b2 b3 b23 i2 hown1 hbel1 sq
    obtain ⟨pq, cq, rfl⟩ := sq3.shape
    have hstart : DgIn w A rr 9 low u3 w3 := ⟨D, hown3, hlow9, by rw [← hgk]; exact HD.out, fun h => by omega, hbel3⟩
    have HGK : Hid (gk = rr * 10 ^ 9 + low) := hgk
    clear hgk hown3 hbel3 HD
    go_wp2_with fail
    go_loopg [3, 6, 20] 9 (fun q out v n wy => ∃ vv : Nat, q ≤ 9 ∧ n = .int .i64 (9 - (q : Int)) ∧ v = .int .i64 (vv : Int) ∧ DgIn w A rr q vv out wy ∧ Sl wy (.slice pq zq.length cq) zq ∧ ∀ k, out.ownBlock = some k → 0 < zq.length → (Value.slice pq zq.length cq).ownBlock ≠ some k)
    case atStart => exact ⟨low, Nat.le_refl _, rfl, rfl, hstart, sq3, fun k hk _ => hapart k hk⟩
    case round =>
      obtain ⟨vv, hq9, rfl, rfl, ⟨D', hown', hvv, hdg', hpos, hbel'⟩, sq', hap'⟩ := hrel
      clear hstart hapart sq3
      cases gk with
      | zero =>
        have hv0 : vv = 0 := by simp at hvv; omega
        have hp := hpos (by omega)
        simp only [Nat.pow_zero, Nat.mul_one] at hdg' hp
        subst hv0
        simp only [Nat.add_zero] at hdg' hp
        have HD' : Hid _ := hdg'
        clear hdg' hpos hvv hap'
        go_wp2_with fail
        go_roundg rr
        case measure => have := HGK.out; omega
        case rel => exact ⟨zq, D', sq', HRR.out, hzq, hown', HD'.out, hbel'⟩
      | succ q =>
        have hqi : (9 : Int) - ((q + 1 : Nat) : Int) = 8 - (q : Int) := by omega
        rw [hqi]
        have hq8 : (8 : Int) - (q : Int) < 9 := by omega
        have hq7 : (q : Int) ≤ 8 := by omega
        have hvb : (vv : Int) < 1000000000 := by
          have := Nat.pow_le_pow_right (show 0 < 10 by decide) (show q + 1 ≤ 9 by omega)
          omega
        have hDl : D'.length ≤ 1000 := by
          have := HLn.out
          rw [hdg'] at this
          simp at this
          omega
        have hR0 : rr * 10 ^ (q + 1) = 10 * (rr * 10 ^ q) := by rw [Nat.pow_succ, ← Nat.mul_assoc, Nat.mul_comm]
        have hR1 : (rr * 10 ^ (q + 1) + vv) % 10 = vv % 10 := by rw [hR0]; omega
        have hR2 : (rr * 10 ^ (q + 1) + vv) / 10 = rr * 10 ^ q + vv / 10 := by rw [hR0]; omega
        have hpow : 0 < 10 ^ q := Nat.pow_pos (by decide)
        have hsm : rr * 10 ^ (q + 1) + vv < 10 ↔ (vv / 10 = 0 ∧ rr = 0) := by
          rw [hR0]
          constructor
          · intro h
            refine ⟨by omega, ?_⟩
            rcases Nat.eq_zero_or_pos rr with h1 | h1
            · exact h1
            · have := Nat.mul_pos h1 hpow; omega
          · rintro ⟨h1, h2⟩
            subst h2; omega
        have hvv2 : vv / 10 < 10 ^ q := by rw [Nat.pow_succ] at hvv; omega
        have HD' : Hid (dg A = D' ++ dg (rr * 10 ^ (q + 1) + vv)) := hdg'
        have HP : Hid (if rr * 10 ^ (q + 1) + vv < 10 then dg A = D' ++ [48 + (vv : Int) % 10] else dg A = (D' ++ [48 + (vv : Int) % 10]) ++ dg (rr * 10 ^ q + vv / 10)) := by
          show if _ then _ else _
          split
          · rename_i h
            rw [HD'.out, dg_small h]
            congr 2
            omega
          · rename_i h
            rw [HD'.out, dg_big h, hR1, hR2, List.append_assoc]
            rfl
        have HV2 : Hid _ := hvv2
        have hgr0 : ∀ k, u3.ownBlock = some k → w.heap.size ≤ k := fun k hk => (World.ownsRow.lt hown' k hk).1
        have hbw := hbel'.size
        have hpos2 : ¬ (rr * 10 ^ (q + 1) + vv < 10) → 0 < rr * 10 ^ q + vv / 10 := fun h => by rw [← hR2]; omega
        have HPOS : Hid _ := hpos2
        have hzl : rr = 0 ↔ zq.length = 0 := by
          constructor
          · intro h
            rw [len_zero sq'.ok mq (by rw [HRR.out, h]; rfl)]; rfl
          · intro h
            have := HRR.out
            rw [List.eq_nil_of_length_eq_zero h] at this
            simp only [V] at this
            omega
        clear hdg' hpos hvv hqi hR0 hR1 hR2 hvv2 HD' hpos2 hpow
        have happ := hown'
        unfold OwnB at happ
        by_cases hlast : rr * 10 ^ (q + 1) + vv < 10
        · have h1 : (vv : Int) / 10 = 0 := by have := (hsm.1 hlast).1; omega
          have h2 : zq.length = 0 := hzl.1 (hsm.1 hlast).2
          have HF : Hid (dg A = D' ++ [48 + (vv : Int) % 10]) := by have := HP.out; rw [if_pos hlast] at this; exact this
          clear hsm hzl HP HPOS hlast
          go_wp2_with (first | (at_builtin; refine wpList_append_own_at _ rfl _ _ 35 rfl w.heap.size 5 i (.int .u8 0) 1 1 Tryd.underlying35 hi hz0 hz1 hz2 rfl (by decide) u3 D'.length (D'.map (Value.int .u8)) rfl (World.ownsRow.alloc happ _) ⟨wr.heap.size, 0, none⟩ 1 1 [.int .u8 (48 + (vv : Int) % 10)] rfl rfl (cell_one_new _ _ _) (ints_oneCell .u8 [48 + (vv : Int) % 10]) (by simp only [maxLen]; omega) (by omega) (by simp; omega) ?_; intro v1 w1 hown1 hgr1 hnil1 hloc1) | fail)
          rw [Exit.noGoto_ret]
          go_ret
          refine ⟨v1, rfl, ?_, (hbel'.alloc hbw _).grown hgr1 (by simp; omega) hgr0⟩
          rw [HF.out]
          exact OwnB.more hown1
        · have HF : Hid (dg A = (D' ++ [48 + (vv : Int) % 10]) ++ dg (rr * 10 ^ q + vv / 10)) := by have := HP.out; rw [if_neg hlast] at this; exact this
          have hcase : (vv : Int) / 10 ≠ 0 ∨ ((vv : Int) / 10 = 0 ∧ 0 < (zq.length : Int)) := by
            by_cases h : vv / 10 = 0
            · right
              refine ⟨by omega, ?_⟩
              have : rr ≠ 0 := fun e => hlast (hsm.2 ⟨h, e⟩)
              have : zq.length ≠ 0 := fun e => this (hzl.2 e)
              omega
            · left; omega
          have hzb : ∀ k, (Value.slice pq zq.length cq).ownBlock = some k → 0 < zq.length → k < wr.heap.size := by
            intro k hk h0
            obtain ⟨k', h1, h2⟩ := sq'.block h0
            rw [hk] at h1
            injection h1 with h1
            omega
          clear hsm hzl HP
          rcases hcase with hc | ⟨hc, hz⟩
          · have hcb : ((vv : Int) / 10 == 0) = false := beq_eq_false_iff_ne.2 hc
            go_wp2_with (first | (at_builtin; refine wpList_append_own_at _ rfl _ _ 35 rfl w.heap.size 5 i (.int .u8 0) 1 1 Tryd.underlying35 hi hz0 hz1 hz2 rfl (by decide) u3 D'.length (D'.map (Value.int .u8)) rfl (World.ownsRow.alloc happ _) ⟨wr.heap.size, 0, none⟩ 1 1 [.int .u8 (48 + (vv : Int) % 10)] rfl rfl (cell_one_new _ _ _) (ints_oneCell .u8 [48 + (vv : Int) % 10]) (by simp only [maxLen]; omega) (by omega) (by simp; omega) ?_; intro v1 w1 hown1 hgr1 hnil1 hloc1) | fail)
            have slF : Sl w1 (Value.slice pq zq.length cq) zq := (sq'.below ((Below.refl _ _).alloc (Nat.le_refl _) _)).grown hgr1 (by
              intro h0
              cases hu : u3.ownBlock with
              | none => exact .inl rfl
              | some k => exact .inr (hap' k hu h0))
            have hbelF := (hbel'.alloc hbw _).grown hgr1 (by simp; omega) hgr0
            have hapF : ∀ k, v1.ownBlock = some k → 0 < zq.length → (Value.slice pq zq.length cq).ownBlock ≠ some k := by
              intro k hk h0
              rcases hloc1 with h | h
              · exact hap' k (by rw [← h]; exact hk) h0
              · rw [hk] at h
                injection h with h
                intro e
                have := hzb k e h0
                simp at h
                omega
            go_roundg q
            case measure => omega
            case rel => exact ⟨vv / 10, by omega, by go_num, by go_num, ⟨D' ++ [48 + (vv : Int) % 10], OwnB.more hown1, HV2.out, HF.out, fun _ => HPOS.out hlast, hbelF⟩, slF, hapF⟩
          · have hzb' : ((zq.length : Int) == 0) = false := beq_eq_false_iff_ne.2 (by omega)
            go_wp2_with (first | (at_builtin; refine wpList_append_own_at _ rfl _ _ 35 rfl w.heap.size 5 i (.int .u8 0) 1 1 Tryd.underlying35 hi hz0 hz1 hz2 rfl (by decide) u3 D'.length (D'.map (Value.int .u8)) rfl (World.ownsRow.alloc happ _) ⟨wr.heap.size, 0, none⟩ 1 1 [.int .u8 (48 + (vv : Int) % 10)] rfl rfl (cell_one_new _ _ _) (ints_oneCell .u8 [48 + (vv : Int) % 10]) (by simp only [maxLen]; omega) (by omega) (by simp; omega) ?_; intro v1 w1 hown1 hgr1 hnil1 hloc1) | fail)
            have slF : Sl w1 (Value.slice pq zq.length cq) zq := (sq'.below ((Below.refl _ _).alloc (Nat.le_refl _) _)).grown hgr1 (by
              intro h0
              cases hu : u3.ownBlock with
              | none => exact .inl rfl
              | some k => exact .inr (hap' k hu h0))
            have hbelF := (hbel'.alloc hbw _).grown hgr1 (by simp; omega) hgr0
            have hapF : ∀ k, v1.ownBlock = some k → 0 < zq.length → (Value.slice pq zq.length cq).ownBlock ≠ some k := by
              intro k hk h0
              rcases hloc1 with h | h
              · exact hap' k (by rw [← h]; exact hk) h0
              · rw [hk] at h
                injection h with h
                intro e
                have := hzb k e h0
                simp at h
                omega
            go_roundg q
            case measure => omega
            case rel => exact ⟨vv / 10, by omega, by go_num, by go_num, ⟨D' ++ [48 + (vv : Int) % 10], OwnB.more hown1, HV2.out, HF.out, fun _ => HPOS.out hlast, hbelF⟩, slF, hapF⟩
end Go.Proofs.YtbmondbicnfcpaaDoor

/-
  slices.Reverse of a row of bytes of the caller's own.
-/
namespace Go.Proofs.YtbmondbicnfcpaaDoor
open Go.RowKit
set_option linter.unusedVariables false

/-- So far from both ends the row is turned round. -/
def RevRel (D X : List Int) (k : Nat) : Prop := X.length = D.length ∧ ∀ p, p < D.length → X.getD p 0 = if p < k ∨ D.length - 1 - k < p then D.getD (D.length - 1 - p) 0 else D.getD p 0

theorem RevRel.step {D X : List Int} {k : Nat} (h : RevRel D X k) (hk : k < D.length - 1 - k) {x y : Int} (hx : x = X.getD k 0) (hy : y = X.getD (D.length - 1 - k) 0) : RevRel D ((X.set k y).set (D.length - 1 - k) x) (k + 1) := by
  obtain ⟨h1, h2⟩ := h
  refine ⟨by simpa using h1, fun p hp => ?_⟩
  have hk2 := h2 k (by omega)
  rw [if_neg (by omega)] at hk2
  have hj2 := h2 (D.length - 1 - k) (by omega)
  rw [if_neg (by omega)] at hj2
  by_cases e1 : p = D.length - 1 - k
  · rw [e1, getD_set_eq' _ _ _ (by simp; omega), if_pos (by omega), hx, hk2]
    congr 1
    omega
  · rw [getD_set_ne' _ _ _ _ e1]
    by_cases e2 : p = k
    · rw [e2, getD_set_eq' _ _ _ (by omega), if_pos (by omega), hy, hj2]
    · rw [getD_set_ne' _ _ _ _ e2, h2 p hp]
      by_cases c : p < k ∨ D.length - 1 - k < p
      · rw [if_pos c, if_pos (by omega)]
      · rw [if_neg c, if_neg (by omega)]

theorem RevRel.end {D X : List Int} {k : Nat} (h : RevRel D X k) (hk : ¬ (k < D.length - 1 - k)) : X = D.reverse := by
  obtain ⟨h1, h2⟩ := h
  apply List.ext_getElem (by simpa using h1)
  intro p hp hp'
  have e := h2 p (by omega)
  rw [List.getElem_reverse]
  have e1 : X.getD p 0 = X[p] := by simp [List.getD, hp]
  rw [e1] at e
  rw [e]
  by_cases c : p < k ∨ D.length - 1 - k < p
  · rw [if_pos c]; simp [List.getD, show D.length - 1 - p < D.length by omega]
  · rw [if_neg c]
    have : p = D.length - 1 - p := by omega
    simp only [List.getD]
    rw [List.getElem?_eq_getElem (by omega)]
    simp
    congr 1

set_option maxHeartbeats 4000000 in
theorem reverse_own (g cap base : Nat) (D : List Int) (w : World) (hlen : D.length ≤ 100000) (ho : OwnB w base (.slice (some ⟨g, 0, none⟩) D.length cap) D) :
    Calls Tryd.prog 122 #[.slice (some ⟨g, 0, none⟩) D.length cap] w fun e w' => e = .returned (.tuple #[]) ∧ OwnB w' base (.slice (some ⟨g, 0, none⟩) D.length cap) D.reverse ∧ Below g w w' := by
  go_enter Tryd.func122, Tryd.ntmps122
  go_wp2_with fail
  go_loopw [2, 3] (fun i j wr => ∃ (k : Nat) (X : List Int), i = .int .i64 k ∧ j = .int .i64 ((D.length : Int) - 1 - (k : Int)) ∧ k ≤ D.length ∧ RevRel D X k ∧ wr.ownsRow base 5 1 (.slice (some ⟨g, 0, none⟩) D.length cap) D.length (X.map (Value.int .u8)) ∧ Below g w wr) (fun i _ _ => D.length - (intOf i).toNat)
  case atStart => exact ⟨0, D, rfl, by go_num, by omega, ⟨rfl, fun p hp => by rw [if_neg (by omega)]⟩, ho, Below.refl _ _⟩
  case round =>
    obtain ⟨k, X, rfl, rfl, hk, hR, hown, hbel⟩ := hrel
    by_cases hkj : k < D.length - 1 - k
    · obtain ⟨j, hj⟩ : ∃ j, j = D.length - 1 - k := ⟨_, rfl⟩
      have hji : (D.length : Int) - 1 - (k : Int) = (j : Int) := by omega
      rw [hji]
      have c1 := hown.cellAt k (by omega)
      have c2 := hown.cellAt j (by omega)
      have f1 := hown.frozenAt k
      have f2 := hown.frozenAt j
      have hXl := hR.1
      obtain ⟨x, hx⟩ : ∃ x, x = X.getD k 0 := ⟨_, rfl⟩
      obtain ⟨y, hy⟩ : ∃ y, y = X.getD j 0 := ⟨_, rfl⟩
      have e1 : (X.map (Value.int .u8))[k]? = some (Value.int .u8 x) := by rw [hx]; simp [List.getD, show k < X.length by omega]
      have e2 : (X.map (Value.int .u8))[j]? = some (Value.int .u8 y) := by rw [hy]; simp [List.getD, show j < X.length by omega]
      rw [e1] at c1
      rw [e2] at c2
      have HR : Hid (RevRel D ((X.set k y).set j x) (k + 1)) := by
        have h := hR.step hkj (x := x) (y := y) hx (by rw [hy, hj])
        rw [← hj] at h; exact h
      have hkj' : (k : Int) < (j : Int) := by omega
      have hjl : (j : Int) < (D.length : Int) := by omega
      have hne : k ≠ j := by omega
      have hne2 : j ≠ k := by omega
      have HJ : Hid (j + k + 1 = D.length) := by show j + k + 1 = D.length; omega
      clear e1 e2 hx hy hR hj hkj hji
      go_wp2_with fail
      go_region
      have s1 := hown.stored k (.int .u8 y)
      have s2 := s1.1.stored j (.int .u8 x)
      have hb1 := hbel.setCell (p := ⟨g, k, none⟩) (Nat.le_refl _) (.int .u8 y)
      have hb2 := hb1.setCell (p := ⟨g, j, none⟩) (Nat.le_refl _) (.int .u8 x)
      go_wp2_with fail
      go_roundw
      case rel =>
        refine ⟨k + 1, (X.set k y).set j x, by go_num, congrArg (Value.int .i64) (by have := HJ.out; omega), by omega, HR.out, ?_, hb2.drew⟩
        have := s2.1
        rw [← List.map_set, ← List.map_set] at this
        exact this
      case measure => simp [intOf]; omega
    · have hnot : ¬ ((k : Int) < (D.length : Int) - 1 - (k : Int)) := by omega
      have HE : Hid (X = D.reverse) := hR.end hkj
      clear hR
      go_wp2_with fail
      go_end0
      refine ⟨rfl, ?_, hbel⟩
      rw [← HE.out]
      unfold OwnB
      have hl : X.length = D.length := by rw [HE.out]; simp
      rw [hl]
      exact hown
end Go.Proofs.YtbmondbicnfcpaaDoor

/-
  num.Text: the text of a number.
-/
namespace Go.Proofs.YtbmondbicnfcpaaDoor
open Go.RowKit
set_option linter.unusedVariables false

/-- A text is answered. -/
def TextPost (w : World) (x : Int) (e : Ending) (w' : World) : Prop := e = .returned (.string (strOfNums (decL x))) ∧ Below w.heap.size w w'

theorem OwnB.shape {w : World} {base : Nat} {v : Value} {D : List Int} (h : OwnB w base v D) (h0 : 0 < D.length) : ∃ g cap, v = .slice (some ⟨g, 0, none⟩) D.length cap ∧ base ≤ g ∧ g < w.heap.size ∧ ∀ i, i < D.length → w.cell? ⟨g, 0 + i, none⟩ = some (.int .u8 (D.getD i 0)) := by
  have h' := h
  rcases h.2 with ⟨_, h1⟩ | ⟨g, cap, cur, rfl, hb, hh, _⟩
  · omega
  · refine ⟨g, cap, rfl, hb, (Array.getElem?_eq_some_iff.1 hh).1, fun i hi => ?_⟩
    unfold OwnB at h'
    rw [Nat.zero_add, h'.cellAt i (by omega)]
    simp [List.getD, hi]

theorem natAbs_Z (n : Bool) {zs : List Int} (h : Ok zs) {A : Nat} (hA : V zs = (A : Int)) : (Z n (V zs)).natAbs = A := by
  have := abs_Z n h
  omega

theorem dec_small {A : Nat} (h : (A : Int) < B 12) : 0 < (dg A).length ∧ (dg A).length ≤ 116 := by
  have h2 := B12_dec
  refine dg_len 116 A ?_ (by decide)
  have : (A : Int) < ((10 ^ 116 : Nat) : Int) := by
    refine Int.lt_trans h ?_
    simpa using h2
  exact Int.ofNat_lt.1 this

set_option maxHeartbeats 4000000 in
theorem text_any (v : Value) (x : Int) (w : World) (h : Nx w v x) : Calls Tryd.prog 71 #[v] w fun e w' => TextPost w x e w' := by
  obtain ⟨i, hi, hz0, hz1, hz2⟩ := info_parts Tryd.infoU8
  have h0 := h
  obtain ⟨neg, zs, ⟨s, rfl, hs⟩, hv⟩ := h
  obtain ⟨p, c, rfl⟩ := hs.shape
  have hb1 := (Below.refl w.heap.size w).alloc (Nat.le_refl _) (.cells #[.bool neg, .slice p zs.length c] 26)
  have x0 := Bx.new w neg p zs.length c
  have h1 := h0.below hb1
  clear h0
  go_enter Tryd.func71, Tryd.ntmps71
  go_wp2_with fail
  refine (taken_any _ x _ h1).mono ?_
  rintro e w1 ⟨v1, rfl, ⟨n1, z1, ⟨s1, rfl, t1⟩, hg1, hx1⟩, hb2⟩
  obtain ⟨p1, c1, rfl⟩ := t1.shape
  have y0 := x0.below hb2 (by simp)
  have hbw := hb1.trans (hb2.mono (by simp))
  obtain ⟨A, hA⟩ := Int.eq_ofNat_of_zero_le (V_nonneg t1.ok)
  have hA12 : (A : Int) < B 12 := by rw [← hA]; exact (room_len t1.ok hg1.2.1).1 hg1.1
  have hdl := dec_small hA12
  have hsg := Z_pos hg1 t1.ok
  rw [hx1] at hsg
  have hab : x.natAbs = A := by rw [← hx1]; exact natAbs_Z n1 t1.ok hA
  have hl1 : z1.length ≤ 12 := hg1.1
  have HA : Hid (V z1 = (A : Int)) := hA
  have HDL : Hid (0 < (dg A).length ∧ (dg A).length ≤ 116) := hdl
  have HT : Hid (decL x = if n1 = true then 45 :: (dg A).reverse else (dg A).reverse) := by
    show decL x = _
    unfold decL
    rw [hab]
    cases n1
    · rw [if_neg (by have := hsg.2 rfl; omega)]; rfl
    · rw [if_pos (hsg.1 rfl)]; rfl
  clear hb1 hb2 x0 hv hs h1 hg1 hx1 hA hA12 hdl hsg hab
  obtain ⟨a0, a1, f0, f1, l0⟩ := y0.facts
  go_wp2_with fail
  rw [setBx_eq]
  have hbut := setBx_but w1 w.heap.size n1 (.slice p1 z1.length c1)
  have u0 := y0.set (neg' := n1) (p := p1) (n := z1.length) (c := c1)
  replace t1 := t1.box y0 hbut
  replace hbw := hbw.trans (hbut.below (Nat.le_refl _))
  clear a0 a1 f0 f1 l0 y0 hbut
  generalize setBx w1 w.heap.size n1 (.slice p1 z1.length c1) = w2 at *
  obtain ⟨c0, c1', -⟩ := u0.facts
  refine (digits_any _ z1 A _ t1 HA.out (by omega) (by have := HDL.out; omega)).mono ?_
  rintro e w3 ⟨v3, rfl, o3, b3⟩
  obtain ⟨D, hD⟩ : ∃ D, D = dg A := ⟨_, rfl⟩
  have hDl : 0 < D.length ∧ D.length ≤ 116 := by rw [hD]; exact HDL.out
  rw [← hD] at o3 HT
  replace u0 := u0.under b3
  replace hbw2 := hbw.trans (b3.mono hbw.size)
  have hbase := hbw.size
  have hb3 := b3.size
  clear c0 c1' HDL HA hD t1 b3
  obtain ⟨c0, c1', -⟩ := u0.facts
  cases n1
  · have hD0 := hDl.1
    obtain ⟨g, cap, rfl, hg1, hg2, hcells⟩ := OwnB.shape o3 hD0
    clear hcells
    go_wp2_with fail
    refine (reverse_own g cap _ D _ (by omega) o3).mono ?_
    rintro e w4 ⟨rfl, o4, b4⟩
    have o4' : OwnB w4 w2.heap.size (.slice (some ⟨g, 0, none⟩) (D).reverse.length cap) (D).reverse := by rw [List.length_reverse]; exact o4
    obtain ⟨g', cap', he, -, -, hc'⟩ := OwnB.shape o4' (by simpa using hD0)
    simp only [Value.slice.injEq, Option.some.injEq, Addr.mk.injEq] at he
    obtain ⟨⟨rfl, -⟩, -, rfl⟩ := he
    have hcv := run_convert_bytes_arg (P := Tryd.prog) w4 35 5 Tryd.underlying35 Tryd.underlying5 g 0 (D).length cap (D).reverse (by simp) (fun j hj => hc' j (by simpa using hj)) 9 Tryd.underlying9
    have hbF := hbw2.trans (b4.mono (by omega))
    clear hc' o4 o4' b4
    go_wp2_with fail
    go_ret
    refine ⟨?_, hbF⟩
    rw [HT.out]
    rfl
  · have happ := o3
    unfold OwnB at happ
    have hgr0 : ∀ k, v3.ownBlock = some k → w2.heap.size ≤ k := fun k hk => (World.ownsRow.lt happ k hk).1
    go_wp2_with (first | (at_builtin; refine wpList_append_own_at _ rfl _ _ 35 rfl w2.heap.size 5 i (.int .u8 0) 1 1 Tryd.underlying35 hi hz0 hz1 hz2 rfl (by decide) v3 D.length (D.map (Value.int .u8)) rfl (World.ownsRow.alloc happ _) ⟨w3.heap.size, 0, none⟩ 1 1 [.int .u8 45] rfl rfl (cell_one_new _ _ _) (ints_oneCell .u8 [45]) (by simp only [maxLen]; omega) (by omega) (by simp; omega) ?_; intro v5 w5 hown5 hgr5 hnil5 hloc5) | fail)
    have o5 := OwnB.more hown5
    have hb5 : Below w.heap.size w w5 := (hbw2.alloc (by omega) _).grown hgr5 (by simp; omega) (fun k hk => Nat.le_trans hbase (hgr0 k hk))
    clear hown5 hgr5 hnil5 hloc5 happ o3
    obtain ⟨g, cap, rfl, hg1, hg2, hcells⟩ := OwnB.shape o5 (by simp)
    clear hcells
    go_wp2_with fail
    refine (reverse_own g cap _ (D ++ [45]) _ (by simp; omega) o5).mono ?_
    rintro e w4 ⟨rfl, o4, b4⟩
    have o4' : OwnB w4 w2.heap.size (.slice (some ⟨g, 0, none⟩) (D ++ [45]).reverse.length cap) (D ++ [45]).reverse := by rw [List.length_reverse]; exact o4
    obtain ⟨g', cap', he, -, -, hc'⟩ := OwnB.shape o4' (by simp)
    simp only [Value.slice.injEq, Option.some.injEq, Addr.mk.injEq] at he
    obtain ⟨⟨rfl, -⟩, -, rfl⟩ := he
    have hcv := run_convert_bytes_arg (P := Tryd.prog) w4 35 5 Tryd.underlying35 Tryd.underlying5 g 0 (D.length + 1) cap (D ++ [45]).reverse (by simp) (fun j hj => hc' j (by simpa using hj)) 9 Tryd.underlying9
    have hbF := hb5.trans (b4.mono (by omega))
    clear hc' o4 o4' b4
    go_wp2_with fail
    go_ret
    refine ⟨?_, hbF⟩
    rw [HT.out]
    simp
end Go.Proofs.YtbmondbicnfcpaaDoor
