
/-
  num.digits: the signs of a size's digits, the lowest first.
-/
import Derived.Test.YtnfnnngdbeplaaaDoorDecMath
namespace Go.Proofs.YtnfnnngdbeplaaaDoor
open Go.RowKit
set_option linter.unusedVariables false

/-- A row of bytes of the call's own, with whatever room behind. -/
def OwnB (w : World) (base : Nat) (v : Value) (D : List Int) : Prop := w.ownsRow base 5 1 v D.length (D.map (Value.int .u8))

theorem OwnB.under {w w' : World} {base : Nat} {v : Value} {D : List Int} (h : OwnB w base v D) (hb : Below w.heap.size w w') : OwnB w' base v D := by
  obtain ⟨h1, h2⟩ := h
  refine ⟨h1, ?_⟩
  rcases h2 with h3 | ⟨g, cap, cur, rfl, hb1, hh, h4⟩
  · exact .inl h3
  · exact .inr ⟨g, cap, cur, rfl, hb1, by rw [hb.block g (Array.getElem?_eq_some_iff.1 hh).1]; exact hh, h4⟩

theorem Tryd.infoU8 : (Tryd.prog.info? 5).map (fun i => (i.zero, i.size, i.bytes)) = some (some (.int .u8 0), 1, 1) := by kernel_rfl

def DgPost (w : World) (A : Nat) (e : Ending) (w' : World) : Prop := ∃ v, e = .returned v ∧ OwnB w' w.heap.size v (dg A) ∧ Below w.heap.size w w'

theorem Sl.grown {w w' : World} {v : Value} {zs : List Int} {row : Option Nat} (h : Sl w v zs) (hg : w.grownBy w' row) (hne : 0 < zs.length → row = none ∨ v.ownBlock ≠ row) : Sl w' v zs := by
  obtain ⟨hok, a, n, cap, rfl, hl, hc, hm, hn, hp⟩ := h
  refine ⟨hok, a, n, cap, rfl, hl, hc, hm, hn, fun h0 => ?_⟩
  obtain ⟨b, off, rfl, hlt, hcell⟩ := hp h0
  refine ⟨b, off, rfl, Nat.lt_of_lt_of_le hlt hg.size, fun i hi => ?_⟩
  have hbr : row ≠ some b := by
    rcases hne (by omega) with h | h
    · rw [h]; simp
    · intro e; exact h e.symm
  rw [World.cell?_of_block (w := w) (a := ⟨b, off + i, none⟩) (hg.block b hlt hbr.symm)]
  exact hcell i hi

theorem OwnB.more {w : World} {base : Nat} {v : Value} {D : List Int} {z : Int} (h : w.ownsRow base 5 1 v (D.length + 1) (D.map (Value.int .u8) ++ [Value.int .u8 z])) : OwnB w base v (D ++ [z]) := by
  unfold OwnB
  simpa using h

/-- The outer loop's relation. -/
def DgOut (w : World) (A gk : Nat) (vl vo : Value) (wr : World) : Prop := ∃ L D, Sl wr vl L ∧ V L = (gk : Int) ∧ L.length ≤ 200 ∧ OwnB wr w.heap.size vo D ∧ dg A = D ++ dg gk ∧ Below w.heap.size w wr

/-- The inner loop's relation. -/
def DgIn (w : World) (A rr gk vv : Nat) (vo : Value) (wr : World) : Prop := ∃ D, OwnB wr w.heap.size vo D ∧ vv < 10 ^ gk ∧ dg A = D ++ dg (rr * 10 ^ gk + vv) ∧ (gk < 9 → 0 < rr * 10 ^ gk + vv) ∧ Below w.heap.size w wr

set_option maxRecDepth 100000 in
set_option maxHeartbeats 8000000 in
theorem digits_any (va : Value) (a : List Int) (A : Nat) (w : World) (ha : Sl w va a) (hA : V a = (A : Int)) (hl : a.length ≤ 200) (hd : (dg A).length ≤ 1000) :
    Calls Tryd.prog 81 #[va] w fun e w' => DgPost w A e w' := by
  obtain ⟨i, hi, hz0, hz1, hz2⟩ := info_parts Tryd.infoU8
  have HLn : Hid _ := hd
  clear hd
  go_enter Tryd.func81, Tryd.ntmps81
  go_wp2_with fail
  go_step3
  go_wp2_with fail
  go_step3
  go_wp2_with fail
  go_loopg [0, 3] A (fun gk l out wr => DgOut w A gk l out wr)
  case atStart => exact ⟨a, [], ha, hA, hl, World.ownsRow_nil _ _ _ _, rfl, Below.refl _ _⟩
  case round =>
    obtain ⟨L, D, hL, hVL, hlL, hown, hdg, hbel⟩ := hrel
    obtain ⟨pl, cl, hshape⟩ := hL.shape
    have sl := sl_lit wr 1000000000 (by decide) (by decide)
    have hb := (Below.refl wr.heap.size wr).alloc (Nat.le_refl _) (.cells #[.int .u32 1000000000] 49)
    have HD : Hid _ := hdg
    have HV : Hid _ := hVL
    clear hdg hVL hshape
    go_wp2_with fail
    refine (div_new _ _ L [1000000000] _ (hL.below hb) sl (by omega) (by simp)).mono ?_
    rintro e w1 ⟨vq, vr, zq, zr, rfl, sq, sr, mq, mr, lq, lr, b1, -, e1, hnew⟩
    have hapart : ∀ k, u3.ownBlock = some k → vq.ownBlock ≠ some k := by
      intro k hk e
      have h1 := hnew k e
      have h2 := (World.ownsRow.lt hown k hk).2
      simp at h1
      omega
    clear hnew
    obtain ⟨e2, e3⟩ := e1 (by decide)
    have hown1 := (OwnB.under hown hb).under b1
    have hbel1 := (hbel.trans (hb.mono hbel.size)).trans (b1.mono (Nat.le_trans hbel.size hb.size))
    obtain ⟨rr, hrr⟩ := Int.eq_ofNat_of_zero_le (V_nonneg sq.ok)
    obtain ⟨low, hlow⟩ := Int.eq_ofNat_of_zero_le (V_nonneg sr.ok)
    have e4 : V [1000000000] = 1000000000 := by decide
    rw [e4, hrr, hlow] at e2
    rw [e4, hlow] at e3
    have hgk : gk = rr * 10 ^ 9 + low := by have := HV.out; omega
    have hlow9 : low < 10 ^ 9 := by omega
    have hzr : zr.length ≤ 12 := len_le_of sr.ok mr (by rw [hlow]; have h1 := B_mono (show 1 ≤ 12 by omega); have e : B 1 = 4294967296 := (by decide); omega)
    have hzq : zq.length ≤ 200 := by
      have h1 := V_lt hL.ok
      have h2 := len_le_of sq.ok mq (n := L.length) (by rw [hrr]; have := HV.out; omega)
      omega
    clear e1 e2 e3 e4 hown hbel hb sl b1 lr lq
    have HRR : Hid (V zq = (rr : Int)) := hrr
    have HLOW : Hid (V zr = (low : Int)) := hlow
    clear hrr hlow
    go_wp2_with fail
    refine (signed_any false _ zr _ sr).mono ?_
    intro e w2 h2
    obtain ⟨v2, rfl, i2, b2⟩ := h2.isN mr hzr
    clear h2
    go_wp2_with fail
    refine (int_any _ _ _ i2.nx).mono ?_
    rintro e w3 ⟨rfl, b3⟩
    have hi3 : intS (Z false (V zr)) = some (low : Int) := by
      rw [show Z false (V zr) = V zr from rfl, HLOW.out]
      unfold intS
      rw [if_pos (by omega)]
    rw [hi3]
    have b23 := b2.trans (b3.mono b2.size)
    have hown3 := OwnB.under hown1 b23
    have hbel3 := hbel1.trans (b23.mono hbel1.size)
    have sq3 := sq.below b23
    clear hi3 b2 b3 b23 i2 hown1 hbel1 sq
    obtain ⟨pq, cq, rfl⟩ := sq3.shape
    have hstart : DgIn w A rr 9 low u3 w3 := ⟨D, hown3, hlow9, by rw [← hgk]; exact HD.out, fun h => by omega, hbel3⟩
    have HGK : Hid (gk = rr * 10 ^ 9 + low) := hgk
    clear hgk hown3 hbel3 HD
    go_wp2_with fail
    go_loopg [3, 6, 20] 9 (fun q out v n wy => ∃ vv : Nat, q ≤ 9 ∧ n = .int .i64 (9 - (q : Int)) ∧ v = .int .i64 (vv : Int) ∧ DgIn w A rr q vv out wy ∧ Sl wy (.slice pq zq.length cq) zq ∧ ∀ k, out.ownBlock = some k → 0 < zq.length → (Value.slice pq zq.length cq).ownBlock ≠ some k)
    case atStart => exact ⟨low, Nat.le_refl _, rfl, rfl, hstart, sq3, fun k hk _ => hapart k hk⟩
    case round =>
      obtain ⟨vv, hq9, rfl, rfl, ⟨D', hown', hvv, hdg', hpos, hbel'⟩, sq', hap'⟩ := hrel
      clear hstart hapart sq3
      cases gk with
      | zero =>
        have hv0 : vv = 0 := by simp at hvv; omega
        have hp := hpos (by omega)
        simp only [Nat.pow_zero, Nat.mul_one] at hdg' hp
        subst hv0
        simp only [Nat.add_zero] at hdg' hp
        have HD' : Hid _ := hdg'
        clear hdg' hpos hvv hap'
        go_wp2_with fail
        go_roundg rr
        case measure => have := HGK.out; omega
        case rel => exact ⟨zq, D', sq', HRR.out, hzq, hown', HD'.out, hbel'⟩
      | succ q =>
        have hqi : (9 : Int) - ((q + 1 : Nat) : Int) = 8 - (q : Int) := by omega
        rw [hqi]
        have hq8 : (8 : Int) - (q : Int) < 9 := by omega
        have hq7 : (q : Int) ≤ 8 := by omega
        have hvb : (vv : Int) < 1000000000 := by
          have := Nat.pow_le_pow_right (show 0 < 10 by decide) (show q + 1 ≤ 9 by omega)
          omega
        have hDl : D'.length ≤ 1000 := by
          have := HLn.out
          rw [hdg'] at this
          simp at this
          omega
        have hR0 : rr * 10 ^ (q + 1) = 10 * (rr * 10 ^ q) := by rw [Nat.pow_succ, ← Nat.mul_assoc, Nat.mul_comm]
        have hR1 : (rr * 10 ^ (q + 1) + vv) % 10 = vv % 10 := by rw [hR0]; omega
        have hR2 : (rr * 10 ^ (q + 1) + vv) / 10 = rr * 10 ^ q + vv / 10 := by rw [hR0]; omega
        have hpow : 0 < 10 ^ q := Nat.pow_pos (by decide)
        have hsm : rr * 10 ^ (q + 1) + vv < 10 ↔ (vv / 10 = 0 ∧ rr = 0) := by
          rw [hR0]
          constructor
          · intro h
            refine ⟨by omega, ?_⟩
            rcases Nat.eq_zero_or_pos rr with h1 | h1
            · exact h1
            · have := Nat.mul_pos h1 hpow; omega
          · rintro ⟨h1, h2⟩
            subst h2; omega
        have hvv2 : vv / 10 < 10 ^ q := by rw [Nat.pow_succ] at hvv; omega
        have HD' : Hid (dg A = D' ++ dg (rr * 10 ^ (q + 1) + vv)) := hdg'
        have HP : Hid (if rr * 10 ^ (q + 1) + vv < 10 then dg A = D' ++ [48 + (vv : Int) % 10] else dg A = (D' ++ [48 + (vv : Int) % 10]) ++ dg (rr * 10 ^ q + vv / 10)) := by
          show if _ then _ else _
          split
          · rename_i h
            rw [HD'.out, dg_small h]
            congr 2
            omega
          · rename_i h
            rw [HD'.out, dg_big h, hR1, hR2, List.append_assoc]
            rfl
        have HV2 : Hid _ := hvv2
        have hgr0 : ∀ k, u3.ownBlock = some k → w.heap.size ≤ k := fun k hk => (World.ownsRow.lt hown' k hk).1
        have hbw := hbel'.size
        have hpos2 : ¬ (rr * 10 ^ (q + 1) + vv < 10) → 0 < rr * 10 ^ q + vv / 10 := fun h => by rw [← hR2]; omega
        have HPOS : Hid _ := hpos2
        have hzl : rr = 0 ↔ zq.length = 0 := by
          constructor
          · intro h
            rw [len_zero sq'.ok mq (by rw [HRR.out, h]; rfl)]; rfl
          · intro h
            have := HRR.out
            rw [List.eq_nil_of_length_eq_zero h] at this
            simp only [V] at this
            omega
        clear hdg' hpos hvv hqi hR0 hR1 hR2 hvv2 HD' hpos2 hpow
        have happ := hown'
        unfold OwnB at happ
        by_cases hlast : rr * 10 ^ (q + 1) + vv < 10
        · have h1 : (vv : Int) / 10 = 0 := by have := (hsm.1 hlast).1; omega
          have h2 : zq.length = 0 := hzl.1 (hsm.1 hlast).2
          have HF : Hid (dg A = D' ++ [48 + (vv : Int) % 10]) := by have := HP.out; rw [if_pos hlast] at this; exact this
          clear hsm hzl HP HPOS hlast
          go_wp2_with (first | (at_builtin; refine wpList_append_own_at _ rfl _ _ 62 rfl w.heap.size 5 i (.int .u8 0) 1 1 Tryd.underlying62 hi hz0 hz1 hz2 rfl (by decide) u3 D'.length (D'.map (Value.int .u8)) rfl (World.ownsRow.alloc happ _) ⟨wr.heap.size, 0, none⟩ 1 1 [.int .u8 (48 + (vv : Int) % 10)] rfl rfl (cell_one_new _ _ _) (ints_oneCell .u8 [48 + (vv : Int) % 10]) (by simp only [maxLen]; omega) (by omega) (by simp; omega) ?_; intro v1 w1 hown1 hgr1 hnil1 hloc1) | fail)
          rw [Exit.noGoto_ret]
          go_ret
          refine ⟨v1, rfl, ?_, (hbel'.alloc hbw _).grown hgr1 (by simp; omega) hgr0⟩
          rw [HF.out]
          exact OwnB.more hown1
        · have HF : Hid (dg A = (D' ++ [48 + (vv : Int) % 10]) ++ dg (rr * 10 ^ q + vv / 10)) := by have := HP.out; rw [if_neg hlast] at this; exact this
          have hcase : (vv : Int) / 10 ≠ 0 ∨ ((vv : Int) / 10 = 0 ∧ 0 < (zq.length : Int)) := by
            by_cases h : vv / 10 = 0
            · right
              refine ⟨by omega, ?_⟩
              have : rr ≠ 0 := fun e => hlast (hsm.2 ⟨h, e⟩)
              have : zq.length ≠ 0 := fun e => this (hzl.2 e)
              omega
            · left; omega
          have hzb : ∀ k, (Value.slice pq zq.length cq).ownBlock = some k → 0 < zq.length → k < wr.heap.size := by
            intro k hk h0
            obtain ⟨k', h1, h2⟩ := sq'.block h0
            rw [hk] at h1
            injection h1 with h1
            omega
          clear hsm hzl HP
          rcases hcase with hc | ⟨hc, hz⟩
          · have hcb : ((vv : Int) / 10 == 0) = false := beq_eq_false_iff_ne.2 hc
            go_wp2_with (first | (at_builtin; refine wpList_append_own_at _ rfl _ _ 62 rfl w.heap.size 5 i (.int .u8 0) 1 1 Tryd.underlying62 hi hz0 hz1 hz2 rfl (by decide) u3 D'.length (D'.map (Value.int .u8)) rfl (World.ownsRow.alloc happ _) ⟨wr.heap.size, 0, none⟩ 1 1 [.int .u8 (48 + (vv : Int) % 10)] rfl rfl (cell_one_new _ _ _) (ints_oneCell .u8 [48 + (vv : Int) % 10]) (by simp only [maxLen]; omega) (by omega) (by simp; omega) ?_; intro v1 w1 hown1 hgr1 hnil1 hloc1) | fail)
            have slF : Sl w1 (Value.slice pq zq.length cq) zq := (sq'.below ((Below.refl _ _).alloc (Nat.le_refl _) _)).grown hgr1 (by
              intro h0
              cases hu : u3.ownBlock with
              | none => exact .inl rfl
              | some k => exact .inr (hap' k hu h0))
            have hbelF := (hbel'.alloc hbw _).grown hgr1 (by simp; omega) hgr0
            have hapF : ∀ k, v1.ownBlock = some k → 0 < zq.length → (Value.slice pq zq.length cq).ownBlock ≠ some k := by
              intro k hk h0
              rcases hloc1 with h | h
              · exact hap' k (by rw [← h]; exact hk) h0
              · rw [hk] at h
                injection h with h
                intro e
                have := hzb k e h0
                simp at h
                omega
            go_roundg q
            case measure => omega
            case rel => exact ⟨vv / 10, by omega, by go_num, by go_num, ⟨D' ++ [48 + (vv : Int) % 10], OwnB.more hown1, HV2.out, HF.out, fun _ => HPOS.out hlast, hbelF⟩, slF, hapF⟩
          · have hzb' : ((zq.length : Int) == 0) = false := beq_eq_false_iff_ne.2 (by omega)
            go_wp2_with (first | (at_builtin; refine wpList_append_own_at _ rfl _ _ 62 rfl w.heap.size 5 i (.int .u8 0) 1 1 Tryd.underlying62 hi hz0 hz1 hz2 rfl (by decide) u3 D'.length (D'.map (Value.int .u8)) rfl (World.ownsRow.alloc happ _) ⟨wr.heap.size, 0, none⟩ 1 1 [.int .u8 (48 + (vv : Int) % 10)] rfl rfl (cell_one_new _ _ _) (ints_oneCell .u8 [48 + (vv : Int) % 10]) (by simp only [maxLen]; omega) (by omega) (by simp; omega) ?_; intro v1 w1 hown1 hgr1 hnil1 hloc1) | fail)
            have slF : Sl w1 (Value.slice pq zq.length cq) zq := (sq'.below ((Below.refl _ _).alloc (Nat.le_refl _) _)).grown hgr1 (by
              intro h0
              cases hu : u3.ownBlock with
              | none => exact .inl rfl
              | some k => exact .inr (hap' k hu h0))
            have hbelF := (hbel'.alloc hbw _).grown hgr1 (by simp; omega) hgr0
            have hapF : ∀ k, v1.ownBlock = some k → 0 < zq.length → (Value.slice pq zq.length cq).ownBlock ≠ some k := by
              intro k hk h0
              rcases hloc1 with h | h
              · exact hap' k (by rw [← h]; exact hk) h0
              · rw [hk] at h
                injection h with h
                intro e
                have := hzb k e h0
                simp at h
                omega
            go_roundg q
            case measure => omega
            case rel => exact ⟨vv / 10, by omega, by go_num, by go_num, ⟨D' ++ [48 + (vv : Int) % 10], OwnB.more hown1, HV2.out, HF.out, fun _ => HPOS.out hlast, hbelF⟩, slF, hapF⟩
end Go.Proofs.YtnfnnngdbeplaaaDoor
