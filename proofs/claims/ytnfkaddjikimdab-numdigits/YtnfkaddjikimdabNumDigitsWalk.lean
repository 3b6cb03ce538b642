/-
  The law NumDigits: for every slice of ints and every bool it returns true.
-/
import Derived.Test.YtnfkaddjikimdabNumDec
import Derived.Test.YtnfkaddjikimdabNumSame
import Derived.Deep.CutRange
namespace Go.Proofs.Ytnfkaddjikimdab
open Go.RowKit
set_option linter.unusedVariables false

/-- A slice of ints that is known. -/
def SlI (w : World) (v : Value) (zs : List Int) : Prop :=
  ∃ a n cap, v = .slice a n cap ∧ zs.length = n ∧ (∀ z ∈ zs, -9223372036854775808 ≤ z ∧ z ≤ 9223372036854775807) ∧ (0 < n → ∃ b off, a = some ⟨b, off, none⟩ ∧ b < w.heap.size ∧ ∀ i, i < n → w.cell? ⟨b, off + i, none⟩ = some (.int .i64 (zs.getD i 0)))

theorem SlI.below {w w' : World} {v : Value} {zs : List Int} (h : SlI w v zs) (hb : Below w.heap.size w w') : SlI w' v zs := by
  obtain ⟨a, n, cap, rfl, hl, hw, hp⟩ := h
  refine ⟨a, n, cap, rfl, hl, hw, fun h0 => ?_⟩
  obtain ⟨b, off, rfl, hlt, hcell⟩ := hp h0
  refine ⟨b, off, rfl, Nat.lt_of_lt_of_le hlt hb.size, fun i hi => ?_⟩
  rw [hb.cell (p := ⟨b, off + i, none⟩) hlt]
  exact hcell i hi

theorem slI_of_row {w : World} {a : Option Addr} {len cap : Nat} {zs : List Int}
    (h : (a = none ∧ len = 0 ∧ cap = 0 ∧ zs = []) ∨
      ∃ x, a = some x ∧ len ≤ cap ∧ cap ≤ maxLen ∧ zs.length = cap ∧ (∀ i, i < zs.length → w.cell? (x.add i) = some (.int .i64 (zs.getD i 0))) ∧ ∀ n ∈ zs, (Lit.int .i64 n).wf = true) :
    SlI w (.slice a len cap) (zs.take len) := by
  rcases h with ⟨rfl, rfl, rfl, rfl⟩ | ⟨x, rfl, hl, hm, hz, hc, hw⟩
  · exact ⟨none, 0, 0, rfl, rfl, fun z hz => by simp at hz, fun h => by omega⟩
  · refine ⟨_, len, cap, rfl, by simp; omega, fun z hz => bd64 (hw z (List.mem_of_mem_take hz)), fun h0 => ?_⟩
    obtain ⟨b, off, spot⟩ := x
    have h1 := hc 0 (by omega)
    have hspot : spot = none := by simpa [Addr.add] using World.cell?_spot h1
    subst hspot
    have hlt : b < w.heap.size := by
      have := World.block_lt_of_cell? w _ h1
      simpa [Addr.add] using this
    refine ⟨b, off, rfl, hlt, fun i hi => ?_⟩
    have h2 := hc i (by omega)
    rw [show (⟨b, off, none⟩ : Addr).add i = ⟨b, off + i, none⟩ by unfold Addr.add; split <;> simp_all] at h2
    rw [h2]
    simp [List.getD, hi]

/-- The signs so far. -/
def sgn (N : Nat) : List Int := if N = 0 then [] else (dg N).reverse
theorem sgn_more {N d : Nat} (hd : d < 10) (h : ¬ (N = 0 ∧ d = 0)) : sgn (10 * N + d) = sgn N ++ [48 + (d : Int)] := by
  unfold sgn
  rw [if_neg (by omega)]
  by_cases h0 : N = 0
  · subst h0
    rw [if_pos rfl, Nat.mul_zero, Nat.zero_add, dg_small hd]; rfl
  · rw [if_neg h0, dg_more (by omega) hd]

theorem digit_text : ∀ d : Nat, d < 10 → (⟨#[48, 49, 50, 51, 52, 53, 54, 55, 56, 57]⟩ : ByteArray).extract d (d + 1) = strOfNums [48 + (d : Int)] := by decide +kernel

theorem pow_room {N k : Nat} (h : N < 10 ^ k) (hk : k ≤ 60) : (N : Int) < B 7 := by
  have h1 : N < 10 ^ 60 := Nat.lt_of_lt_of_le h (Nat.pow_le_pow_right (by decide) hk)
  have h2 : ((10 ^ 60 : Nat) : Int) < B 7 := by decide +kernel
  have h3 : (N : Int) < ((10 ^ 60 : Nat) : Int) := Int.ofNat_lt.2 h1
  omega

theorem digits_math {N d : Nat} (h : (N : Int) < B 7) (hd : d < 10) : opS 3 (N : Int) 10 = some ((N : Int) * 10) ∧ opS 1 ((N : Int) * 10) (d : Int) = some (((10 * N + d : Nat) : Int)) := by
  have e : B 8 = 4294967296 * B 7 := rfl
  have hb := B_mono (show 8 ≤ 12 by omega)
  have hp := B_pos 7
  rw [opS_3, opS_1]
  unfold fitS
  rw [if_pos (by omega), if_pos (by omega)]
  refine ⟨rfl, ?_⟩
  congr 1
  omega

theorem decL_sgn {N : Nat} (h : N ≠ 0) : decL (N : Int) = sgn N ∧ decL (-(N : Int)) = 45 :: sgn N := by
  unfold decL sgn
  rw [if_neg h, if_neg (by omega), if_pos (by omega)]
  refine ⟨by congr 2, by congr 3; omega⟩

theorem decL_zero : strOfNums (decL 0) = ⟨#[48]⟩ := by
  have : dg (0 : Nat) = [48] := dg_small (by decide)
  simp [decL, this, strOfNums]

theorem bound_at {zs : List Int} (h : ∀ z ∈ zs, -9223372036854775808 ≤ z ∧ z ≤ 9223372036854775807) {k : Nat} (hk : k < zs.length) : -9223372036854775808 ≤ zs.getD k 0 ∧ zs.getD k 0 ≤ 9223372036854775807 := by
  have e : zs.getD k 0 = zs[k] := by simp [List.getD, hk]
  rw [e]; exact h _ (List.getElem_mem hk)

set_option maxRecDepth 100000 in
set_option maxHeartbeats 32000000 in
theorem numDigits_walk (v : Value) (zs : List Int) (neg : Bool) (w : World) (hs : SlI w v zs) :
    Calls Try.prog 4 #[v, .bool neg] w fun e w' => e = .returned (.bool true) ∧ Below w.heap.size w w' := by
  have hs0 := hs
  obtain ⟨a, n, cap, rfl, hlen, hbd, -⟩ := hs
  have HBD : Hid (∀ z ∈ zs, -9223372036854775808 ≤ z ∧ z ≤ 9223372036854775807) := hbd
  clear hbd
  go_enter Try.func4, Try.ntmps4
  go_wp2_with fail
  refine (of_any 0 _ (by decide) (by decide)).mono ?_
  rintro e w1 ⟨v1, rfl, i1, b1⟩
  obtain ⟨n1, p1, z1, c1, rfl, t1, g1, x1⟩ := i1.open
  have vn0 := Var.new t1 g1 x1
  have hB0 := b1.alloc b1.size (.cells #[.bool n1, .slice p1 z1.length c1] 24)
  have hgn := b1.size
  clear i1 t1 g1 x1 b1
  go_wp2_with fail
  generalize w1.alloc (.cells #[.bool n1, .slice p1 z1.length c1] 24) = w2 at *
  generalize w1.heap.size = gn at *
  go_loopg [5, 7] (min n 60) (fun gk s i wr => ∃ (k N : Nat) (sv : ByteArray), k + gk = min n 60 ∧ s = .string sv ∧ sv = strOfNums (sgn N) ∧ i = .int .i64 (k : Int) ∧ Var wr (.pointer (some ⟨gn, 0, none⟩)) (N : Int) ∧ N < 10 ^ k ∧ Below w.heap.size w wr)
  case atStart => exact ⟨0, 0, ⟨#[]⟩, by omega, rfl, rfl, rfl, vn0, by decide, hB0⟩
  case round =>
    obtain ⟨k, N, sv, hk, rfl, hsv, rfl, vx, hN, hB⟩ := hrel
    have hk60 : k ≤ 60 := by omega
    have hNB := pow_room hN hk60
    have HSV : Hid (sv = strOfNums (sgn N)) := hsv
    have hsz : (sv.size : Int) ≤ 100 := by
      rw [hsv, strOfNums_size]
      have : (sgn N).length ≤ 61 := by
        unfold sgn
        split
        · simp
        · have := dg_len 60 N (Nat.lt_of_lt_of_le hN (Nat.pow_le_pow_right (by decide) hk60)) (by decide)
          simp; omega
      omega
    have hemp : sv.toList.isEmpty = decide (N = 0) := by
      rw [Lib.toList_data, hsv, str_bys]
      unfold sgn
      by_cases h : N = 0
      · simp [h, bys]
      · have := dg_ne N
        simp [h, bys, this]
    have HN : Hid (N < 10 ^ k) := hN
    clear hsv hN vn0 hB0
    cases gk with
    | zero =>
      have hstop : ¬ ((k : Int) < (n : Int)) ∨ ((k : Int) < (n : Int) ∧ ¬ ((k : Int) < 60)) := by omega
      rcases hstop with hst | ⟨hst1, hst2⟩
      · by_cases hN0 : N = 0
        · subst hN0
          have he1 : sv.toList.isEmpty = true := by rw [hemp]; rfl
          clear hemp
          obtain ⟨nx, px, zx, cx, ux, ix⟩ := vx.at
          obtain ⟨q0, q1, -⟩ := ux.facts
          go_wp2_with fail
          refine (text_any _ 0 _ ix.nx).mono ?_
          rintro e w4 ⟨rfl, b4⟩
          rw [decL_zero]
          replace hB := hB.trans (b4.mono hB.size)
          clear q0 q1 ux ix vx b4
          go_wp2_with fail
          refine (awake_any _).mono ?_
          rintro e w5 ⟨rfl, b5⟩
          replace hB := hB.trans (b5.mono hB.size)
          go_wp2_with fail
          go_ret
          exact ⟨rfl, hB⟩
        · have he1 : sv.toList.isEmpty = false := by rw [hemp]; simp [hN0]
          clear hemp
          have hdec := decL_sgn hN0
          have hb12 := B_mono (show 7 ≤ 12 by omega)
          cases neg
          · obtain ⟨x, hx⟩ : ∃ x, x = (N : Int) := ⟨_, rfl⟩
            rw [← hx] at vx
            have HS : Hid (sv = strOfNums (decL x)) := by show sv = _; rw [HSV.out, hx, hdec.1]
            have HP : Hid (parseS sv = some x ∧ parseS (sv ++ ⟨#[46]⟩) = none ∧ parseS (⟨#[48]⟩ ++ sv) = none) := by
              refine ⟨?_, ?_, ?_⟩
              · rw [HS.out]; exact parse_dec (by omega) (by omega)
              · rw [HS.out]; exact parse_dot x
              · rw [HS.out]; exact parse_nought x
            clear hx hdec hb12
            obtain ⟨nx, px, zx, cx, ux, ix⟩ := vx.at
            obtain ⟨q0, q1, -⟩ := ux.facts
            go_wp2_with fail
            refine (parse_any sv _).mono ?_
            rw [HP.out.1]
            rintro e w4 ⟨v4, rfl, im, b4⟩
            obtain ⟨nm, pm, zm, cm, rfl, tm, gm, xm⟩ := im.open
            have um := Bx.new w4 nm pm zm.length cm
            have bb := (Below.refl w4.heap.size w4).alloc (Nat.le_refl _) (.cells #[.bool nm, .slice pm zm.length cm] 24)
            have im' : IsN (w4.alloc (.cells #[.bool nm, .slice pm zm.length cm] 24)) (.agg #[.bool nm, .slice pm zm.length cm]) x := im.below bb
            have b44 := b4.trans (bb.mono b4.size)
            replace ux := ux.under b44
            replace ix := ix.below b44
            replace hB := hB.trans (b44.mono hB.size)
            clear q0 q1 tm gm xm bb b44 b4 im
            go_wp2_with fail
            generalize w4.alloc (.cells #[.bool nm, .slice pm zm.length cm] 24) = w5 at *
            generalize w4.heap.size = gm at *
            refine (parse_any _ _).mono ?_
            rw [HP.out.2.1]
            rintro e w6 ⟨v6, rfl, i6, b6⟩
            obtain ⟨n6, p6, z6, c6, rfl, t6, g6, x6⟩ := i6.open
            have b66 := b6.alloc b6.size (.cells #[.bool n6, .slice p6 z6.length c6] 24)
            replace ux := ux.under b66
            replace ix := ix.below b66
            replace um := um.under b66
            replace im' := im'.below b66
            replace hB := hB.trans (b66.mono hB.size)
            clear t6 g6 x6 i6 b6 b66
            go_wp2_with fail
            generalize w6.alloc (.cells #[.bool n6, .slice p6 z6.length c6] 24) = w7 at *
            generalize w6.heap.size = g6' at *
            refine (parse_any _ _).mono ?_
            rw [HP.out.2.2]
            rintro e w8 ⟨v8, rfl, i8, b8⟩
            obtain ⟨n8, p8, z8, c8, rfl, t8, g8, x8⟩ := i8.open
            have b88 := b8.alloc b8.size (.cells #[.bool n8, .slice p8 z8.length c8] 24)
            replace ux := ux.under b88
            replace ix := ix.below b88
            replace um := um.under b88
            replace im' := im'.below b88
            replace hB := hB.trans (b88.mono hB.size)
            clear t8 g8 x8 i8 b8 b88
            obtain ⟨q0, q1, -⟩ := ux.facts
            obtain ⟨r0, r1, -⟩ := um.facts
            go_wp2_with fail
            generalize w8.alloc (.cells #[.bool n8, .slice p8 z8.length c8] 24) = w9 at *
            generalize w8.heap.size = g8' at *
            refine (same_num _ _ x _ im' ix).mono ?_
            rintro e wa ⟨rfl, ba⟩
            replace ux := ux.under ba
            replace ix := ix.below ba
            replace hB := hB.trans (ba.mono hB.size)
            clear q0 q1 r0 r1 um im' ba
            obtain ⟨q0, q1, -⟩ := ux.facts
            go_wp2_with fail
            refine (text_any _ x _ ix.nx).mono ?_
            rintro e wb ⟨rfl, bb⟩
            rw [← HS.out]
            replace hB := hB.trans (bb.mono hB.size)
            have hee : (sv.toList == sv.toList) = true := by simp
            clear q0 q1 ux ix bb
            go_wp2_with fail
            refine (awake_any _).mono ?_
            rintro e wz ⟨rfl, bz⟩
            replace hB := hB.trans (bz.mono hB.size)
            go_wp2_with fail
            go_ret
            exact ⟨rfl, hB⟩
          · obtain ⟨x, hx⟩ : ∃ x, x = -(N : Int) := ⟨_, rfl⟩
            obtain ⟨sw, hsw⟩ : ∃ sw, sw = (⟨#[45]⟩ : ByteArray) ++ sv := ⟨_, rfl⟩
            have HS : Hid (sw = strOfNums (decL x)) := by
              show sw = _
              rw [hsw, HSV.out, hx, hdec.2]
              exact str_append [45] (sgn N)
            have HP : Hid (parseS sw = some x ∧ parseS (sw ++ ⟨#[46]⟩) = none ∧ parseS (⟨#[48]⟩ ++ sw) = none) := by
              refine ⟨?_, ?_, ?_⟩
              · rw [HS.out]; exact parse_dec (by omega) (by omega)
              · rw [HS.out]; exact parse_dot x
              · rw [HS.out]; exact parse_nought x
            have hszw : (sw.size : Int) ≤ 101 := by rw [hsw, ByteArray.size_append']; have : (ByteArray.mk #[45]).size = 1 := rfl; omega
            have HW : Hid (sw = (⟨#[45]⟩ : ByteArray) ++ sv) := hsw
            obtain ⟨nx, px, zx, cx, ux, ix⟩ := vx.at
            obtain ⟨q0, q1, -⟩ := ux.facts
            clear hdec hb12 hsw
            go_wp2_with fail
            rw [← HW.out]
            refine (neg_any _ (N : Int) _ ix.nx).mono ?_
            rw [← hx]
            clear hx
            rintro e w3 ⟨v3, rfl, i3, b3⟩
            obtain ⟨n3, p3, z3, c3, rfl, t3, g3, x3⟩ := i3.open
            replace ux := ux.under b3
            have iy : IsN (setBx w3 gn n3 (.slice p3 z3.length c3)) (.agg #[.bool n3, .slice p3 z3.length c3]) x := ⟨n3, z3, ⟨_, rfl, t3.box ux (setBx_but _ _ _ _)⟩, g3, x3⟩
            have uy := ux.set (neg' := n3) (p := p3) (n := z3.length) (c := c3)
            replace hB := (hB.trans (b3.mono hB.size)).trans ((setBx_but w3 gn n3 (.slice p3 z3.length c3)).below hgn)
            clear q0 q1 i3 t3 g3 x3 b3 ix
            obtain ⟨d0, d1, d2, d3, d4⟩ := ux.facts
            clear vx
            have ix := iy
            clear iy
            go_wp2_with fail
            rw [setBx_eq]
            clear d0 d1 d2 d3 d4 ux
            have ux := uy
            clear uy
            generalize setBx w3 gn n3 (.slice p3 z3.length c3) = w3' at *
            obtain ⟨q0, q1, -⟩ := ux.facts
            have hsz2 := hsz
            clear hsz
            clear he1
            have hsz : (sw.size : Int) ≤ 101 := hszw
            refine (parse_any sw _).mono ?_
            rw [HP.out.1]
            rintro e w4 ⟨v4, rfl, im, b4⟩
            obtain ⟨nm, pm, zm, cm, rfl, tm, gm, xm⟩ := im.open
            have um := Bx.new w4 nm pm zm.length cm
            have bb := (Below.refl w4.heap.size w4).alloc (Nat.le_refl _) (.cells #[.bool nm, .slice pm zm.length cm] 24)
            have im' : IsN (w4.alloc (.cells #[.bool nm, .slice pm zm.length cm] 24)) (.agg #[.bool nm, .slice pm zm.length cm]) x := im.below bb
            have b44 := b4.trans (bb.mono b4.size)
            replace ux := ux.under b44
            replace ix := ix.below b44
            replace hB := hB.trans (b44.mono hB.size)
            clear q0 q1 tm gm xm bb b44 b4 im
            go_wp2_with fail
            generalize w4.alloc (.cells #[.bool nm, .slice pm zm.length cm] 24) = w5 at *
            generalize w4.heap.size = gm at *
            refine (parse_any _ _).mono ?_
            rw [HP.out.2.1]
            rintro e w6 ⟨v6, rfl, i6, b6⟩
            obtain ⟨n6, p6, z6, c6, rfl, t6, g6, x6⟩ := i6.open
            have b66 := b6.alloc b6.size (.cells #[.bool n6, .slice p6 z6.length c6] 24)
            replace ux := ux.under b66
            replace ix := ix.below b66
            replace um := um.under b66
            replace im' := im'.below b66
            replace hB := hB.trans (b66.mono hB.size)
            clear t6 g6 x6 i6 b6 b66
            go_wp2_with fail
            generalize w6.alloc (.cells #[.bool n6, .slice p6 z6.length c6] 24) = w7 at *
            generalize w6.heap.size = g6' at *
            refine (parse_any _ _).mono ?_
            rw [HP.out.2.2]
            rintro e w8 ⟨v8, rfl, i8, b8⟩
            obtain ⟨n8, p8, z8, c8, rfl, t8, g8, x8⟩ := i8.open
            have b88 := b8.alloc b8.size (.cells #[.bool n8, .slice p8 z8.length c8] 24)
            replace ux := ux.under b88
            replace ix := ix.below b88
            replace um := um.under b88
            replace im' := im'.below b88
            replace hB := hB.trans (b88.mono hB.size)
            clear t8 g8 x8 i8 b8 b88
            obtain ⟨q0, q1, -⟩ := ux.facts
            obtain ⟨r0, r1, -⟩ := um.facts
            go_wp2_with fail
            generalize w8.alloc (.cells #[.bool n8, .slice p8 z8.length c8] 24) = w9 at *
            generalize w8.heap.size = g8' at *
            refine (same_num _ _ x _ im' ix).mono ?_
            rintro e wa ⟨rfl, ba⟩
            replace ux := ux.under ba
            replace ix := ix.below ba
            replace hB := hB.trans (ba.mono hB.size)
            clear q0 q1 r0 r1 um im' ba
            obtain ⟨q0, q1, -⟩ := ux.facts
            go_wp2_with fail
            refine (text_any _ x _ ix.nx).mono ?_
            rintro e wb ⟨rfl, bb⟩
            rw [← HS.out]
            replace hB := hB.trans (bb.mono hB.size)
            have hee : (sw.toList == sw.toList) = true := by simp
            clear q0 q1 ux ix bb
            go_wp2_with fail
            refine (awake_any _).mono ?_
            rintro e wz ⟨rfl, bz⟩
            replace hB := hB.trans (bz.mono hB.size)
            go_wp2_with fail
            go_ret
            exact ⟨rfl, hB⟩
      · by_cases hN0 : N = 0
        · subst hN0
          have he1 : sv.toList.isEmpty = true := by rw [hemp]; rfl
          clear hemp
          obtain ⟨nx, px, zx, cx, ux, ix⟩ := vx.at
          obtain ⟨q0, q1, -⟩ := ux.facts
          go_wp2_with fail
          refine (text_any _ 0 _ ix.nx).mono ?_
          rintro e w4 ⟨rfl, b4⟩
          rw [decL_zero]
          replace hB := hB.trans (b4.mono hB.size)
          clear q0 q1 ux ix vx b4
          go_wp2_with fail
          refine (awake_any _).mono ?_
          rintro e w5 ⟨rfl, b5⟩
          replace hB := hB.trans (b5.mono hB.size)
          go_wp2_with fail
          go_ret
          exact ⟨rfl, hB⟩
        · have he1 : sv.toList.isEmpty = false := by rw [hemp]; simp [hN0]
          clear hemp
          have hdec := decL_sgn hN0
          have hb12 := B_mono (show 7 ≤ 12 by omega)
          cases neg
          · obtain ⟨x, hx⟩ : ∃ x, x = (N : Int) := ⟨_, rfl⟩
            rw [← hx] at vx
            have HS : Hid (sv = strOfNums (decL x)) := by show sv = _; rw [HSV.out, hx, hdec.1]
            have HP : Hid (parseS sv = some x ∧ parseS (sv ++ ⟨#[46]⟩) = none ∧ parseS (⟨#[48]⟩ ++ sv) = none) := by
              refine ⟨?_, ?_, ?_⟩
              · rw [HS.out]; exact parse_dec (by omega) (by omega)
              · rw [HS.out]; exact parse_dot x
              · rw [HS.out]; exact parse_nought x
            clear hx hdec hb12
            obtain ⟨nx, px, zx, cx, ux, ix⟩ := vx.at
            obtain ⟨q0, q1, -⟩ := ux.facts
            go_wp2_with fail
            refine (parse_any sv _).mono ?_
            rw [HP.out.1]
            rintro e w4 ⟨v4, rfl, im, b4⟩
            obtain ⟨nm, pm, zm, cm, rfl, tm, gm, xm⟩ := im.open
            have um := Bx.new w4 nm pm zm.length cm
            have bb := (Below.refl w4.heap.size w4).alloc (Nat.le_refl _) (.cells #[.bool nm, .slice pm zm.length cm] 24)
            have im' : IsN (w4.alloc (.cells #[.bool nm, .slice pm zm.length cm] 24)) (.agg #[.bool nm, .slice pm zm.length cm]) x := im.below bb
            have b44 := b4.trans (bb.mono b4.size)
            replace ux := ux.under b44
            replace ix := ix.below b44
            replace hB := hB.trans (b44.mono hB.size)
            clear q0 q1 tm gm xm bb b44 b4 im
            go_wp2_with fail
            generalize w4.alloc (.cells #[.bool nm, .slice pm zm.length cm] 24) = w5 at *
            generalize w4.heap.size = gm at *
            refine (parse_any _ _).mono ?_
            rw [HP.out.2.1]
            rintro e w6 ⟨v6, rfl, i6, b6⟩
            obtain ⟨n6, p6, z6, c6, rfl, t6, g6, x6⟩ := i6.open
            have b66 := b6.alloc b6.size (.cells #[.bool n6, .slice p6 z6.length c6] 24)
            replace ux := ux.under b66
            replace ix := ix.below b66
            replace um := um.under b66
            replace im' := im'.below b66
            replace hB := hB.trans (b66.mono hB.size)
            clear t6 g6 x6 i6 b6 b66
            go_wp2_with fail
            generalize w6.alloc (.cells #[.bool n6, .slice p6 z6.length c6] 24) = w7 at *
            generalize w6.heap.size = g6' at *
            refine (parse_any _ _).mono ?_
            rw [HP.out.2.2]
            rintro e w8 ⟨v8, rfl, i8, b8⟩
            obtain ⟨n8, p8, z8, c8, rfl, t8, g8, x8⟩ := i8.open
            have b88 := b8.alloc b8.size (.cells #[.bool n8, .slice p8 z8.length c8] 24)
            replace ux := ux.under b88
            replace ix := ix.below b88
            replace um := um.under b88
            replace im' := im'.below b88
            replace hB := hB.trans (b88.mono hB.size)
            clear t8 g8 x8 i8 b8 b88
            obtain ⟨q0, q1, -⟩ := ux.facts
            obtain ⟨r0, r1, -⟩ := um.facts
            go_wp2_with fail
            generalize w8.alloc (.cells #[.bool n8, .slice p8 z8.length c8] 24) = w9 at *
            generalize w8.heap.size = g8' at *
            refine (same_num _ _ x _ im' ix).mono ?_
            rintro e wa ⟨rfl, ba⟩
            replace ux := ux.under ba
            replace ix := ix.below ba
            replace hB := hB.trans (ba.mono hB.size)
            clear q0 q1 r0 r1 um im' ba
            obtain ⟨q0, q1, -⟩ := ux.facts
            go_wp2_with fail
            refine (text_any _ x _ ix.nx).mono ?_
            rintro e wb ⟨rfl, bb⟩
            rw [← HS.out]
            replace hB := hB.trans (bb.mono hB.size)
            have hee : (sv.toList == sv.toList) = true := by simp
            clear q0 q1 ux ix bb
            go_wp2_with fail
            refine (awake_any _).mono ?_
            rintro e wz ⟨rfl, bz⟩
            replace hB := hB.trans (bz.mono hB.size)
            go_wp2_with fail
            go_ret
            exact ⟨rfl, hB⟩
          · obtain ⟨x, hx⟩ : ∃ x, x = -(N : Int) := ⟨_, rfl⟩
            obtain ⟨sw, hsw⟩ : ∃ sw, sw = (⟨#[45]⟩ : ByteArray) ++ sv := ⟨_, rfl⟩
            have HS : Hid (sw = strOfNums (decL x)) := by
              show sw = _
              rw [hsw, HSV.out, hx, hdec.2]
              exact str_append [45] (sgn N)
            have HP : Hid (parseS sw = some x ∧ parseS (sw ++ ⟨#[46]⟩) = none ∧ parseS (⟨#[48]⟩ ++ sw) = none) := by
              refine ⟨?_, ?_, ?_⟩
              · rw [HS.out]; exact parse_dec (by omega) (by omega)
              · rw [HS.out]; exact parse_dot x
              · rw [HS.out]; exact parse_nought x
            have hszw : (sw.size : Int) ≤ 101 := by rw [hsw, ByteArray.size_append']; have : (ByteArray.mk #[45]).size = 1 := rfl; omega
            have HW : Hid (sw = (⟨#[45]⟩ : ByteArray) ++ sv) := hsw
            obtain ⟨nx, px, zx, cx, ux, ix⟩ := vx.at
            obtain ⟨q0, q1, -⟩ := ux.facts
            clear hdec hb12 hsw
            go_wp2_with fail
            rw [← HW.out]
            refine (neg_any _ (N : Int) _ ix.nx).mono ?_
            rw [← hx]
            clear hx
            rintro e w3 ⟨v3, rfl, i3, b3⟩
            obtain ⟨n3, p3, z3, c3, rfl, t3, g3, x3⟩ := i3.open
            replace ux := ux.under b3
            have iy : IsN (setBx w3 gn n3 (.slice p3 z3.length c3)) (.agg #[.bool n3, .slice p3 z3.length c3]) x := ⟨n3, z3, ⟨_, rfl, t3.box ux (setBx_but _ _ _ _)⟩, g3, x3⟩
            have uy := ux.set (neg' := n3) (p := p3) (n := z3.length) (c := c3)
            replace hB := (hB.trans (b3.mono hB.size)).trans ((setBx_but w3 gn n3 (.slice p3 z3.length c3)).below hgn)
            clear q0 q1 i3 t3 g3 x3 b3 ix
            obtain ⟨d0, d1, d2, d3, d4⟩ := ux.facts
            clear vx
            have ix := iy
            clear iy
            go_wp2_with fail
            rw [setBx_eq]
            clear d0 d1 d2 d3 d4 ux
            have ux := uy
            clear uy
            generalize setBx w3 gn n3 (.slice p3 z3.length c3) = w3' at *
            obtain ⟨q0, q1, -⟩ := ux.facts
            have hsz2 := hsz
            clear hsz
            clear he1
            have hsz : (sw.size : Int) ≤ 101 := hszw
            refine (parse_any sw _).mono ?_
            rw [HP.out.1]
            rintro e w4 ⟨v4, rfl, im, b4⟩
            obtain ⟨nm, pm, zm, cm, rfl, tm, gm, xm⟩ := im.open
            have um := Bx.new w4 nm pm zm.length cm
            have bb := (Below.refl w4.heap.size w4).alloc (Nat.le_refl _) (.cells #[.bool nm, .slice pm zm.length cm] 24)
            have im' : IsN (w4.alloc (.cells #[.bool nm, .slice pm zm.length cm] 24)) (.agg #[.bool nm, .slice pm zm.length cm]) x := im.below bb
            have b44 := b4.trans (bb.mono b4.size)
            replace ux := ux.under b44
            replace ix := ix.below b44
            replace hB := hB.trans (b44.mono hB.size)
            clear q0 q1 tm gm xm bb b44 b4 im
            go_wp2_with fail
            generalize w4.alloc (.cells #[.bool nm, .slice pm zm.length cm] 24) = w5 at *
            generalize w4.heap.size = gm at *
            refine (parse_any _ _).mono ?_
            rw [HP.out.2.1]
            rintro e w6 ⟨v6, rfl, i6, b6⟩
            obtain ⟨n6, p6, z6, c6, rfl, t6, g6, x6⟩ := i6.open
            have b66 := b6.alloc b6.size (.cells #[.bool n6, .slice p6 z6.length c6] 24)
            replace ux := ux.under b66
            replace ix := ix.below b66
            replace um := um.under b66
            replace im' := im'.below b66
            replace hB := hB.trans (b66.mono hB.size)
            clear t6 g6 x6 i6 b6 b66
            go_wp2_with fail
            generalize w6.alloc (.cells #[.bool n6, .slice p6 z6.length c6] 24) = w7 at *
            generalize w6.heap.size = g6' at *
            refine (parse_any _ _).mono ?_
            rw [HP.out.2.2]
            rintro e w8 ⟨v8, rfl, i8, b8⟩
            obtain ⟨n8, p8, z8, c8, rfl, t8, g8, x8⟩ := i8.open
            have b88 := b8.alloc b8.size (.cells #[.bool n8, .slice p8 z8.length c8] 24)
            replace ux := ux.under b88
            replace ix := ix.below b88
            replace um := um.under b88
            replace im' := im'.below b88
            replace hB := hB.trans (b88.mono hB.size)
            clear t8 g8 x8 i8 b8 b88
            obtain ⟨q0, q1, -⟩ := ux.facts
            obtain ⟨r0, r1, -⟩ := um.facts
            go_wp2_with fail
            generalize w8.alloc (.cells #[.bool n8, .slice p8 z8.length c8] 24) = w9 at *
            generalize w8.heap.size = g8' at *
            refine (same_num _ _ x _ im' ix).mono ?_
            rintro e wa ⟨rfl, ba⟩
            replace ux := ux.under ba
            replace ix := ix.below ba
            replace hB := hB.trans (ba.mono hB.size)
            clear q0 q1 r0 r1 um im' ba
            obtain ⟨q0, q1, -⟩ := ux.facts
            go_wp2_with fail
            refine (text_any _ x _ ix.nx).mono ?_
            rintro e wb ⟨rfl, bb⟩
            rw [← HS.out]
            replace hB := hB.trans (bb.mono hB.size)
            have hee : (sw.toList == sw.toList) = true := by simp
            clear q0 q1 ux ix bb
            go_wp2_with fail
            refine (awake_any _).mono ?_
            rintro e wz ⟨rfl, bz⟩
            replace hB := hB.trans (bz.mono hB.size)
            go_wp2_with fail
            go_ret
            exact ⟨rfl, hB⟩
    | succ q =>
      have hk1 : (k : Int) < (n : Int) := by omega
      have hk2 : (k : Int) < 60 := by omega
      obtain ⟨_, _, _, he, _, _, hp⟩ := hs0.below hB
      simp only [Value.slice.injEq] at he
      obtain ⟨rfl, rfl, rfl⟩ := he
      obtain ⟨b, off, rfl, hbl, hcell⟩ := hp (by omega)
      have hc := hcell k (by omega)
      have hvb := bound_at HBD.out (show k < zs.length by omega)
      generalize zs.getD k 0 = y at *
      have hd0 := Int.emod_nonneg y (show (10 : Int) ≠ 0 by decide)
      have hd1 := Int.emod_lt_of_pos y (show (0 : Int) < 10 by decide)
      obtain ⟨d, hd⟩ := Int.eq_ofNat_of_zero_le hd0
      have hd10 : d < 10 := by omega
      clear hcell hp
      go_wp2_with fail
      refine (place_any y 10 _ (by decide) (by decide) hvb.1 hvb.2).mono ?_
      rintro e w' ⟨rfl, hww⟩
      subst hww
      rw [hd]
      clear hd hd0 hd1
      by_cases hcont : N = 0 ∧ d = 0
      · obtain ⟨rfl, rfl⟩ := hcont
        have he1 : sv.toList.isEmpty = true := by rw [hemp]; rfl
        clear hemp
        go_wp2_with fail
        go_roundg q
        case measure => omega
        case rel => exact ⟨k + 1, 0, sv, by omega, rfl, HSV.out, by go_num, vx, Nat.pow_pos (by decide), hB⟩
      · have htest : (sv.toList.isEmpty = false) ∨ (sv.toList.isEmpty = true ∧ ((d : Int) == 0) = false) := by
          rw [hemp]
          by_cases h : N = 0
          · right; refine ⟨by simp [h], beq_eq_false_iff_ne.2 (by omega)⟩
          · left; simp [h]
        obtain ⟨M1, M2⟩ := digits_math hNB hd10
        have HM : Hid (opS 3 (N : Int) 10 = some ((N : Int) * 10) ∧ opS 1 ((N : Int) * 10) (d : Int) = some (((10 * N + d : Nat) : Int))) := ⟨M1, M2⟩
        have HT : Hid (sv ++ (⟨#[48, 49, 50, 51, 52, 53, 54, 55, 56, 57]⟩ : ByteArray).extract d (d + 1) = strOfNums (sgn (10 * N + d))) := by
          show _ = _
          rw [digit_text d hd10, HSV.out, str_append, sgn_more hd10 hcont]
        have hdd0 : (0 : Int) ≤ (d : Int) := by omega
        have hdd1 : (d : Int) + 1 ≤ 10 := by omega
        have hesz : (((⟨#[48, 49, 50, 51, 52, 53, 54, 55, 56, 57]⟩ : ByteArray).extract d (d + 1)).size : Int) ≤ 100 := by rw [digit_text d hd10, strOfNums_size]; simp
        clear M1 M2 hcont hemp
        have vxx := vx
        obtain ⟨nx, px, zx, cx, ux, ix⟩ := vx.at
        rcases htest with ht | ⟨ht, ht2⟩
        · go_wp2_with fail
          have lx := ux.lt
          obtain ⟨q0, q1, -⟩ := ux.facts
          go_cut [9, 10] from 18 to 57 (fun s q wc => q = .bool true ∧ Var wc s ((N : Int) * 10) ∧ s ≠ .pointer (some ⟨gn, 0, none⟩) ∧ Var wc (.pointer (some ⟨gn, 0, none⟩)) (N : Int) ∧ Below w.heap.size w wc)
          case first =>
            go_region_held3 (fun w' => w'.cell? ⟨gn, 0, none⟩ = some (.bool nx) ∧ w'.cell? ⟨gn, 1, none⟩ = some (.slice px zx.length cx))
              (first | exact ux.held ((Below.refl _ _).drew) | exact ux.held (((Below.refl _ _).alloc (Nat.le_refl _) _).drew) | exact ux.held hP | exact ux.held hO | exact ux.held (hP.alloc hP.size _) | exact ux.held (hO.alloc hO.size _) | exact ux.held3 hP (by omega))
              (first
                | (go_at_call 9; refine (of_any 10 _ (by decide) (by decide)).mono ?_; rintro e wO ⟨vO, rfl, iO, bO⟩; first | (have hO : Below wr.heap.size wr wO := (Below.refl _ _).drew.trans bO) | (have hO : Below wr.heap.size wr wO := laid_below bO; have xz := laid_box bO))
                | (go_at_call 7; refine (op_any 3 _ _ ((N : Int)) (10) _ ?_ ?_).mono ?_; (first | exact (ix.below hO).nx | exact (ix.below (hO.alloc hO.size _)).nx); (first | exact iO.nx | exact (iO.below ((Below.refl _ _).alloc (Nat.le_refl _) _)).nx); rw [HM.out.1]; rintro e wP ⟨vP, rfl, iP, bP⟩; obtain ⟨n9, p9, z9, c9, rfl, t9, g9, x9⟩ := iP.open; clear iP; have hOs := hO.size; first | (have hP : Below wr.heap.size wr wP := hO.trans (bP.mono hO.size); first | (have xzP := xz.under bP; obtain ⟨y0, y1, y2, y3, y4⟩ := xzP.facts) | skip) | (have hP : Below wr.heap.size wr wP := laid_below2 hO bP; have xzP := laid_box2 bP; obtain ⟨y0, y1, y2, y3, y4⟩ := xzP.facts)))
            all_goals
              go_wp2_with fail
              go_meet
              case rel => first | exact ⟨rfl, Var.new t9 g9 x9, ptr_ne (by have := hP.size; omega), vx.below (hP.alloc hP.size _), hB.trans ((hP.alloc hP.size _).mono hB.size)⟩ | exact ⟨rfl, Var.put xzP t9 g9 x9, ptr_ne (by have := hP.size; omega), (vx.below hP).keep xzP (setBx_but _ _ _ _) (ptr_ne (by omega)), (hB.trans (hP.mono hB.size)).trans ((setBx_but _ _ _ _).below (by have := hB.size; omega))⟩
          case rest =>
            obtain ⟨rfl, vy, hpne, vx', hB'⟩ := hcut
            clear vx vxx hB ux ix lx q0 q1
            obtain ⟨gy, ny, py, zy, cy, rfl, uy, ty, ggy, hy⟩ := vy
            have iy : IsN wc (.agg #[.bool ny, .slice py zy.length cy]) ((N : Int) * 10) := ⟨ny, zy, ⟨_, rfl, ty⟩, ggy, hy⟩
            obtain ⟨nx, px, zx, cx, ux, ix⟩ := vx'.at
            have hne : gy ≠ gn := fun e => hpne (by rw [e])
            clear ty ggy hy hpne vx' ix
            obtain ⟨q0, q1, -⟩ := uy.facts
            go_wp2_with fail
            go_region_held3 (fun w' => w'.cell? ⟨gy, 0, none⟩ = some (.bool ny) ∧ w'.cell? ⟨gy, 1, none⟩ = some (.slice py zy.length cy))
              (first | exact uy.held ((Below.refl _ _).drew) | exact uy.held hk2 | exact uy.held hk1 | exact uy.held3 hk2 hne)
              (first
                | (go_at_call 9; refine (of_any (d : Int) _ (by omega) (by omega)).mono ?_; rintro e x1 ⟨vo, rfl, io, b1⟩; have hk1 : Below wc.heap.size wc x1 := (Below.refl _ _).drew.trans b1; clear b1)
                | (go_at_call 7; refine (op_any 1 _ _ ((N : Int) * 10) (d : Int) _ (iy.below hk1).nx io.nx).mono ?_; rw [HM.out.2]; rintro e x2 ⟨vr, rfl, ir, b2⟩; have hk2 : Below wc.heap.size wc x2 := hk1.trans (b2.mono hk1.size); clear b2; obtain ⟨nr, pr, zr, cr, rfl, tr, gr, xr⟩ := ir.open; obtain ⟨e0, e1, e2, e3, e4⟩ := (ux.under hk2).facts))
            have vN : Var (setBx x2 gn nr (.slice pr zr.length cr)) (.pointer (some ⟨gn, 0, none⟩)) (((10 * N + d : Nat) : Int)) := Var.put (ux.under hk2) tr gr xr
            have hBN := (hB'.trans (hk2.mono hB'.size)).trans ((setBx_but x2 gn nr (.slice pr zr.length cr)).below hgn)
            have hN2 : Hid (10 * N + d < 10 ^ (k + 1)) := by
              show 10 * N + d < 10 ^ (k + 1)
              have := HN.out
              rw [Nat.pow_succ]
              omega
            clear e0 e1 e2 e3 e4 ir tr gr xr io iy
            go_wp2_with fail
            go_roundg q
            case measure => omega
            case rel => exact ⟨k + 1, 10 * N + d, _, by omega, rfl, HT.out, by go_num, vN, hN2.out, hBN⟩
        · go_wp2_with fail
          have lx := ux.lt
          obtain ⟨q0, q1, -⟩ := ux.facts
          go_cut [9, 10] from 18 to 57 (fun s q wc => q = .bool true ∧ Var wc s ((N : Int) * 10) ∧ s ≠ .pointer (some ⟨gn, 0, none⟩) ∧ Var wc (.pointer (some ⟨gn, 0, none⟩)) (N : Int) ∧ Below w.heap.size w wc)
          case first =>
            go_region_held3 (fun w' => w'.cell? ⟨gn, 0, none⟩ = some (.bool nx) ∧ w'.cell? ⟨gn, 1, none⟩ = some (.slice px zx.length cx))
              (first | exact ux.held ((Below.refl _ _).drew) | exact ux.held (((Below.refl _ _).alloc (Nat.le_refl _) _).drew) | exact ux.held hP | exact ux.held hO | exact ux.held (hP.alloc hP.size _) | exact ux.held (hO.alloc hO.size _) | exact ux.held3 hP (by omega))
              (first
                | (go_at_call 9; refine (of_any 10 _ (by decide) (by decide)).mono ?_; rintro e wO ⟨vO, rfl, iO, bO⟩; first | (have hO : Below wr.heap.size wr wO := (Below.refl _ _).drew.trans bO) | (have hO : Below wr.heap.size wr wO := laid_below bO; have xz := laid_box bO))
                | (go_at_call 7; refine (op_any 3 _ _ ((N : Int)) (10) _ ?_ ?_).mono ?_; (first | exact (ix.below hO).nx | exact (ix.below (hO.alloc hO.size _)).nx); (first | exact iO.nx | exact (iO.below ((Below.refl _ _).alloc (Nat.le_refl _) _)).nx); rw [HM.out.1]; rintro e wP ⟨vP, rfl, iP, bP⟩; obtain ⟨n9, p9, z9, c9, rfl, t9, g9, x9⟩ := iP.open; clear iP; have hOs := hO.size; first | (have hP : Below wr.heap.size wr wP := hO.trans (bP.mono hO.size); first | (have xzP := xz.under bP; obtain ⟨y0, y1, y2, y3, y4⟩ := xzP.facts) | skip) | (have hP : Below wr.heap.size wr wP := laid_below2 hO bP; have xzP := laid_box2 bP; obtain ⟨y0, y1, y2, y3, y4⟩ := xzP.facts)))
            all_goals
              go_wp2_with fail
              go_meet
              case rel => first | exact ⟨rfl, Var.new t9 g9 x9, ptr_ne (by have := hP.size; omega), vx.below (hP.alloc hP.size _), hB.trans ((hP.alloc hP.size _).mono hB.size)⟩ | exact ⟨rfl, Var.put xzP t9 g9 x9, ptr_ne (by have := hP.size; omega), (vx.below hP).keep xzP (setBx_but _ _ _ _) (ptr_ne (by omega)), (hB.trans (hP.mono hB.size)).trans ((setBx_but _ _ _ _).below (by have := hB.size; omega))⟩
          case rest =>
            obtain ⟨rfl, vy, hpne, vx', hB'⟩ := hcut
            clear vx vxx hB ux ix lx q0 q1
            obtain ⟨gy, ny, py, zy, cy, rfl, uy, ty, ggy, hy⟩ := vy
            have iy : IsN wc (.agg #[.bool ny, .slice py zy.length cy]) ((N : Int) * 10) := ⟨ny, zy, ⟨_, rfl, ty⟩, ggy, hy⟩
            obtain ⟨nx, px, zx, cx, ux, ix⟩ := vx'.at
            have hne : gy ≠ gn := fun e => hpne (by rw [e])
            clear ty ggy hy hpne vx' ix
            obtain ⟨q0, q1, -⟩ := uy.facts
            go_wp2_with fail
            go_region_held3 (fun w' => w'.cell? ⟨gy, 0, none⟩ = some (.bool ny) ∧ w'.cell? ⟨gy, 1, none⟩ = some (.slice py zy.length cy))
              (first | exact uy.held ((Below.refl _ _).drew) | exact uy.held hk2 | exact uy.held hk1 | exact uy.held3 hk2 hne)
              (first
                | (go_at_call 9; refine (of_any (d : Int) _ (by omega) (by omega)).mono ?_; rintro e x1 ⟨vo, rfl, io, b1⟩; have hk1 : Below wc.heap.size wc x1 := (Below.refl _ _).drew.trans b1; clear b1)
                | (go_at_call 7; refine (op_any 1 _ _ ((N : Int) * 10) (d : Int) _ (iy.below hk1).nx io.nx).mono ?_; rw [HM.out.2]; rintro e x2 ⟨vr, rfl, ir, b2⟩; have hk2 : Below wc.heap.size wc x2 := hk1.trans (b2.mono hk1.size); clear b2; obtain ⟨nr, pr, zr, cr, rfl, tr, gr, xr⟩ := ir.open; obtain ⟨e0, e1, e2, e3, e4⟩ := (ux.under hk2).facts))
            have vN : Var (setBx x2 gn nr (.slice pr zr.length cr)) (.pointer (some ⟨gn, 0, none⟩)) (((10 * N + d : Nat) : Int)) := Var.put (ux.under hk2) tr gr xr
            have hBN := (hB'.trans (hk2.mono hB'.size)).trans ((setBx_but x2 gn nr (.slice pr zr.length cr)).below hgn)
            have hN2 : Hid (10 * N + d < 10 ^ (k + 1)) := by
              show 10 * N + d < 10 ^ (k + 1)
              have := HN.out
              rw [Nat.pow_succ]
              omega
            clear e0 e1 e2 e3 e4 ir tr gr xr io iy
            go_wp2_with fail
            go_roundg q
            case measure => omega
            case rel => exact ⟨k + 1, 10 * N + d, _, by omega, rfl, HT.out, by go_num, vN, hN2.out, hBN⟩
end Go.Proofs.Ytnfkaddjikimdab
