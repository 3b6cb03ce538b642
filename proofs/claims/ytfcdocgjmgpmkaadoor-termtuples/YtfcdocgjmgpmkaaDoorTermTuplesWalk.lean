
/-
  The law TermTuples: for every two slices of ints it returns true.
-/
import Derived.Test.YtfcdocgjmgpmkaaDoorTermTupRow
import Derived.Test.YtfcdocgjmgpmkaaDoorTermAwake
import Derived.Maps.AppendAt
import Derived.Deep.Cut
import Derived.Deep.CutRange
import Derived.Deep.CutBlock
import Derived.Deep.RegionHeld3
import Derived.BigQuiet
namespace Go.Proofs.YtfcdocgjmgpmkaaDoor
open Go.RowKit
set_option linter.unusedVariables false
set_option linter.unusedSimpArgs false
attribute [local go_sem ↓] Go.wp_at_zero Go.wp_at_succ

/-- The third loop's state: the first that differs, so far. -/
def LexSt (w : World) (K L : List Int) (q : Nat) (sf si : Value) (wr : World) : Prop :=
  ∃ (i : Nat) (f : Int), i + q = min K.length L.length ∧ sf = .int .i64 f ∧ si = .int .i64 (i : Int) ∧ (f = 0 → lexF K L = lexF (K.drop i) (L.drop i)) ∧ (f ≠ 0 → lexF K L = f) ∧ Below w.heap.size w wr

set_option maxRecDepth 100000 in
set_option maxHeartbeats 8000000 in
theorem termTuples_walk (vk vl : Value) (K L : List Int) (w : World) (ho : Hid (Ord w)) (hk : SlI w vk K) (hl : SlI w vl L) :
    Calls Tryd.prog 7 #[vk, vl] w fun e w' => e = .returned (.bool true) ∧ Below w.heap.size w w' := by
  obtain ⟨ti, hi, hz0, hz1, hz2⟩ := info_parts Tryd.infoT
  obtain ⟨pk, ck, rfl⟩ := hk.shape
  obtain ⟨pl, cl, rfl⟩ := hl.shape
  by_cases hK : K.length ≤ 30
  · have hK' : ¬ ((30 : Int) < (K.length : Int)) := by omega
    by_cases hL : L.length ≤ 30
    · have hL' : ¬ ((30 : Int) < (L.length : Int)) := by omega
      have HST : Hid (TupSt w K K.length (.slice none 0 0) (.int .i64 0) w) := ⟨0, [], by omega, rfl, IntsRow.nil w _, by simp, Below.refl _ _⟩
      go_enter Tryd.func7, Tryd.ntmps7
      go_wp2_with fail
      have hst := HST.out
      clear HST
      go_loopg [5, 7] K.length (fun q sv si wr => TupSt w K q sv si wr)
      case atStart => exact hst
      case round =>
        clear hst
        obtain ⟨i, ps, hiq, rfl, hR, hm, hB⟩ := hrel
        cases gk with
        | succ q =>
          have hik : i < K.length := by omega
          have hiki : (i : Int) < (K.length : Int) := by omega
          obtain ⟨b, off, rfl, hcell⟩ := (hk.below hB).at i hik
          have hbd := hk.bd i hik
          obtain ⟨x, hx⟩ : ∃ x, K.getD i 0 = x := ⟨_, rfl⟩
          have HX : Hid (K.getD i 0 = x) := hx
          rw [hx] at hcell hbd
          clear hx
          have hpl : ps.length ≤ 30 := by
            have := congrArg List.length hm
            simp at this
            omega
          have HM : Hid (ps.map (fun p => tval p.2) = K.take i) := hm
          clear hm
          go_wp2_with fail
          refine (i1_new x _ hbd.1 hbd.2).mono ?_
          rintro e w1 ⟨nv, t, rfl, hE, ht, b1⟩
          have HE : Hid (IntE w1 (fun k => k < wr.heap.size) (nv, t)) := hE
          obtain ⟨n1, a1, z1, c1, hv1, -⟩ := hE
          dsimp only at hv1
          subst hv1
          simp only [tmV] at HE ⊢
          have hW1 : w1.ownsRow w.heap.size 27 6 u5 ps.length (flat ps) := World.ownsRow.kept (row := Option.none) hR.1 ⟨b1.os, b1.tape, b1.output, b1.size, fun k hk _ => b1.block k hk⟩ (by cases Value.ownBlock u5 <;> simp)
          have hBw : Below w.heap.size w w1 := hB.trans (b1.mono hB.size)
          have HR : Hid (IntsRow wr w.heap.size u5 ps) := hR
          have HB1 : Hid (Below wr.heap.size wr w1) := b1
          have HT : Hid (tval t = x) := ht
          clear hcell hbd hR b1 ht hB
          go_wp2_with (first | (at_builtin; refine wpList_append_own_at _ rfl _ _ 25 rfl w.heap.size 27 ti (.agg #[.int .i64 0, .bool false, .slice none 0 0, .string ⟨#[]⟩, .int .i64 0, .slice none 0 0]) 6 88 Tryd.underlying25 hi hz0 hz1 hz2 rfl (by decide) u5 ps.length (flat ps) rfl (World.ownsRow.alloc hW1 _) ⟨w1.heap.size, 0, none⟩ 1 1 [.int .i64 1, .bool n1, .slice a1 z1.length c1, .string ⟨#[]⟩, .int .i64 0, .slice none 0 0] rfl rfl (World.news_of_block (heap_alloc_new w1 _)) (fun u hu => by simp at hu; rcases hu with rfl | rfl | rfl | rfl | rfl | rfl <;> rfl) (by simp only [maxLen]; omega) (by omega) (by have := hBw.size; simp; omega) ?_; intro v5 w5 hown5 hgr5 hnil5 hloc5) | fail)
          have hgr0 : ∀ k, Value.ownBlock u5 = some k → w.heap.size ≤ k := fun k hk => (World.ownsRow.lt hW1 k hk).1
          have hB5 : Below w.heap.size w w5 := (hBw.alloc hBw.size _).grown hgr5 (by have := hBw.size; simp; omega) hgr0
          have hR5 := IntsRow.push HR.out HB1.out HE.out hown5 hgr5 hloc5
          clear hown5 hgr5 hnil5 hloc5 hgr0 hW1 hBw
          go_roundg q
          case measure => omega
          case rel => exact ⟨i + 1, _, by omega, by go_num, hR5, tup_take HM.out hik (HT.out.trans HX.out.symm), hB5⟩
        | zero =>
          obtain rfl : i = K.length := by omega
          rw [List.take_length] at hm
          obtain ⟨A, hA⟩ : ∃ A, ps.map Prod.snd = A := ⟨_, rfl⟩
          have HVA : Hid (A.map tval = K) := by show _ = K; rw [← hA, ← hm]; simp
          have HTA0 := hR.ts
          have HIA : Hid (∀ t ∈ A, isI t) := by rw [← hA]; exact hR.ints
          rw [hA] at HTA0
          obtain ⟨pA, cA, hvA, -⟩ := HTA0.shape
          rw [hvA] at HTA0
          have HTA1 : Hid (Ts wr (.slice pA A.length cA) A) := HTA0
          have hB2 := hB
          subst hvA
          clear hR hm hA HTA0 hiq hB
          generalize wr = w2 at *
          have hst2 : TupSt w2 L L.length (.slice none 0 0) (.int .i64 0) w2 := ⟨0, [], by omega, rfl, IntsRow.nil w2 _, by simp, Below.refl _ _⟩
          go_wp2_with fail
          go_loopg [6, 8] L.length (fun q sv si wr => TupSt w2 L q sv si wr)
          case atStart => exact hst2
          case round =>
            clear hst2
            obtain ⟨i, ps, hiq, rfl, hR, hm, hB⟩ := hrel
            cases gk with
            | succ q =>
              have hik : i < L.length := by omega
              have hiki : (i : Int) < (L.length : Int) := by omega
              obtain ⟨b, off, rfl, hcell⟩ := (hl.below (hB2.trans (hB.mono hB2.size))).at i hik
              have hbd := hl.bd i hik
              obtain ⟨x, hx⟩ : ∃ x, L.getD i 0 = x := ⟨_, rfl⟩
              have HX : Hid (L.getD i 0 = x) := hx
              rw [hx] at hcell hbd
              clear hx
              have hpl : ps.length ≤ 30 := by
                have := congrArg List.length hm
                simp at this
                omega
              have HM : Hid (ps.map (fun p => tval p.2) = L.take i) := hm
              clear hm
              go_wp2_with fail
              refine (i1_new x _ hbd.1 hbd.2).mono ?_
              rintro e w1 ⟨nv, t, rfl, hE, ht, b1⟩
              have HE : Hid (IntE w1 (fun k => k < wr.heap.size) (nv, t)) := hE
              obtain ⟨n1, a1, z1, c1, hv1, -⟩ := hE
              dsimp only at hv1
              subst hv1
              simp only [tmV] at HE ⊢
              have hW1 : w1.ownsRow w2.heap.size 27 6 u6 ps.length (flat ps) := World.ownsRow.kept (row := Option.none) hR.1 ⟨b1.os, b1.tape, b1.output, b1.size, fun k hk _ => b1.block k hk⟩ (by cases Value.ownBlock u6 <;> simp)
              have hBw : Below w2.heap.size w2 w1 := hB.trans (b1.mono hB.size)
              have HR : Hid (IntsRow wr w2.heap.size u6 ps) := hR
              have HB1 : Hid (Below wr.heap.size wr w1) := b1
              have HT : Hid (tval t = x) := ht
              clear hcell hbd hR b1 ht hB
              go_wp2_with (first | (at_builtin; refine wpList_append_own_at _ rfl _ _ 25 rfl w2.heap.size 27 ti (.agg #[.int .i64 0, .bool false, .slice none 0 0, .string ⟨#[]⟩, .int .i64 0, .slice none 0 0]) 6 88 Tryd.underlying25 hi hz0 hz1 hz2 rfl (by decide) u6 ps.length (flat ps) rfl (World.ownsRow.alloc hW1 _) ⟨w1.heap.size, 0, none⟩ 1 1 [.int .i64 1, .bool n1, .slice a1 z1.length c1, .string ⟨#[]⟩, .int .i64 0, .slice none 0 0] rfl rfl (World.news_of_block (heap_alloc_new w1 _)) (fun u hu => by simp at hu; rcases hu with rfl | rfl | rfl | rfl | rfl | rfl <;> rfl) (by simp only [maxLen]; omega) (by omega) (by have := hBw.size; simp; omega) ?_; intro v5 w5 hown5 hgr5 hnil5 hloc5) | fail)
              have hgr0 : ∀ k, Value.ownBlock u6 = some k → w2.heap.size ≤ k := fun k hk => (World.ownsRow.lt hW1 k hk).1
              have hB5 : Below w2.heap.size w2 w5 := (hBw.alloc hBw.size _).grown hgr5 (by have := hBw.size; simp; omega) hgr0
              have hR5 := IntsRow.push HR.out HB1.out HE.out hown5 hgr5 hloc5
              clear hown5 hgr5 hnil5 hloc5 hgr0 hW1 hBw
              go_roundg q
              case measure => omega
              case rel => exact ⟨i + 1, _, by omega, by go_num, hR5, tup_take HM.out hik (HT.out.trans HX.out.symm), hB5⟩
            | zero =>
              obtain rfl : i = L.length := by omega
              rw [List.take_length] at hm
              obtain ⟨B, hA⟩ : ∃ A, ps.map Prod.snd = A := ⟨_, rfl⟩
              have HVB : Hid (B.map tval = L) := by show _ = L; rw [← hA, ← hm]; simp
              have HTA0 := hR.ts
              have HIB : Hid (∀ t ∈ B, isI t) := by rw [← hA]; exact hR.ints
              rw [hA] at HTA0
              obtain ⟨pB, cB, hvA, -⟩ := HTA0.shape
              rw [hvA] at HTA0
              have HTB : Hid (Ts wr (.slice pB B.length cB) B) := HTA0
              have HTA : Hid (Ts wr (.slice pA A.length cA) A) := HTA1.out.under hB
              have hB3 := hB2.trans (hB.mono hB2.size)
              subst hvA
              clear hR hm hA HTA0 hiq hB HTA1
              have hk3 := hk.below hB3
              have hl3 := hl.below hB3
              generalize wr = w3 at *
              have hst3 : LexSt w3 K L (min K.length L.length) (.int .i64 0) (.int .i64 0) w3 := ⟨0, 0, by omega, rfl, rfl, fun _ => by simp, fun h => absurd rfl h, Below.refl _ _⟩
              have hmin2 : (if (L.length : Int) < (K.length : Int) then (L.length : Int) else (K.length : Int)) = ((min K.length L.length : Nat) : Int) := by omega
              obtain ⟨m, hm3⟩ : ∃ m, min K.length L.length = m := ⟨_, rfl⟩
              have HMM : Hid (min K.length L.length = m) := hm3
              rw [hm3] at hst3 hmin2
              clear hm3
              go_upto_block 4 with fail
              go_cut [9, 10] from 51 to 81 (fun s q wc => s = .int .i64 (lexF K L) ∧ Below w3.heap.size w3 wc)
              case first =>
                go_wp2_with fail
                go_loopg [9, 10] m (fun q s si wr => LexSt w3 K L q s si wr)
                case atStart => exact hst3
                case round =>
                  clear hst3
                  obtain ⟨i, f, hiq, rfl, rfl, h0, h1, hB⟩ := hrel
                  rw [HMM.out] at hiq
                  by_cases hf : f = 0
                  · have H0 : Hid (lexF K L = lexF (K.drop i) (L.drop i)) := h0 hf
                    subst hf
                    clear h0 h1
                    cases gk with
                    | zero =>
                      have him : ¬ ((i : Int) < (m : Int)) := by omega
                      have HE : Hid (lexF K L = 0) := by
                        show _ = _
                        rw [H0.out]
                        have := HMM.out
                        have hd : K.drop i = [] ∨ L.drop i = [] := by
                          simp only [List.drop_eq_nil_iff]
                          omega
                        rcases hd with h | h
                        · rw [h]; exact lexF_nil _
                        · rw [h]; exact lexF_nil' _
                      go_wp2_with fail
                      go_meet
                      case rel => exact ⟨by rw [HE.out], hB⟩
                    | succ q =>
                      have him : (i : Int) < (m : Int) := by omega
                      have hmm := HMM.out
                      have hiK : i < K.length := by omega
                      have hiL : i < L.length := by omega
                      have hiK' : (i : Int) < (K.length : Int) := by omega
                      have hiL' : (i : Int) < (L.length : Int) := by omega
                      obtain ⟨bk, ok, rfl, ck'⟩ := (hk3.below hB).at i hiK
                      obtain ⟨bl, ol, rfl, cl'⟩ := (hl3.below hB).at i hiL
                      obtain ⟨x, hx⟩ : ∃ x, K.getD i 0 = x := ⟨_, rfl⟩
                      obtain ⟨y, hy⟩ : ∃ y, L.getD i 0 = y := ⟨_, rfl⟩
                      have HD : Hid (lexF K L = if sg x y = 0 then lexF (K.drop (i + 1)) (L.drop (i + 1)) else sg x y) := by
                        show _ = _
                        rw [H0.out, List.drop_eq_getElem_cons hiK, List.drop_eq_getElem_cons hiL, ← hx, ← hy]
                        simp [List.getD, hiK, hiL, lexF]
                      rw [hx] at ck'
                      rw [hy] at cl'
                      clear hx hy hmm H0
                      by_cases hxy : x < y
                      · have hyx : ¬ (y < x) := by omega
                        have HS : Hid (sg x y = -1) := sg_lt hxy
                        go_wp2_with fail
                        go_quiet (fail)
                        go_wp2_with fail
                        go_quiet (fail)
                        go_wp2_with fail
                        go_roundg q
                        case measure => omega
                        case rel => exact ⟨i + 1, -1, by rw [HMM.out]; omega, rfl, by go_num, fun h => absurd h (by decide), fun _ => by rw [HD.out, HS.out, if_neg (by decide)], below_drewN hB _⟩
                      · by_cases hyx : y < x
                        · have HS : Hid (sg x y = 1) := sg_gt hyx
                          go_wp2_with fail
                          go_quiet (fail)
                          go_wp2_with fail
                          go_quiet (fail)
                          go_wp2_with fail
                          go_roundg q
                          case measure => omega
                          case rel => exact ⟨i + 1, 1, by rw [HMM.out]; omega, rfl, by go_num, fun h => absurd h (by decide), fun _ => by rw [HD.out, HS.out, if_neg (by decide)], below_drewN hB _⟩
                        · have HS : Hid (sg x y = 0) := sg_eq (by omega)
                          go_wp2_with fail
                          go_quiet (fail)
                          go_wp2_with fail
                          go_quiet (fail)
                          go_wp2_with fail
                          go_roundg q
                          case measure => omega
                          case rel => exact ⟨i + 1, 0, by rw [HMM.out]; omega, rfl, by go_num, fun _ => by rw [HD.out, if_pos HS.out], fun h => absurd rfl h, below_drewN hB _⟩
                  · have hf1 : (f == 0) = false := by simp [hf]
                    have HE : Hid (lexF K L = f) := h1 hf
                    clear h0 h1 hf
                    cases gk with
                    | zero =>
                      have him : ¬ ((i : Int) < (m : Int)) := by omega
                      go_wp2_with fail
                      go_meet
                      case rel => exact ⟨by rw [HE.out], hB⟩
                    | succ q =>
                      have him : (i : Int) < (m : Int) := by omega
                      go_wp2_with fail
                      go_meet
                      case rel => exact ⟨by rw [HE.out], hB⟩
              case rest =>
              obtain ⟨rfl, hBc⟩ := hcut
              replace hB3 := hB3.trans (hBc.mono hB3.size)
              have HTA3 : Hid (Ts wc (.slice pA A.length cA) A) := HTA.out.under hBc
              have HTB3 : Hid (Ts wc (.slice pB B.length cB) B) := HTB.out.under hBc
              clear hBc HTA HTB
              obtain ⟨lf, hlf⟩ : ∃ lf, lexF K L = lf := ⟨_, rfl⟩
              have HLF : Hid (lexF K L = lf) := hlf
              rw [hlf]
              clear hlf
              generalize wc = w4 at *
              go_upto_if 87 with fail
              go_cut [12] from 14 (fun q wc => q = .int .i64 (if (K.length : Int) < (L.length : Int) then -1 else 0) ∧ wc = w4)
              case first =>
                by_cases hlt : (K.length : Int) < (L.length : Int)
                · go_wp2_with fail
                  go_meet
                  case rel => exact ⟨by rw [if_pos hlt], rfl⟩
                · go_wp2_with fail
                  go_meet
                  case rel => exact ⟨by rw [if_neg (by omega)], rfl⟩
              case rest =>
              obtain ⟨rfl, hwc⟩ := hcut
              rw [hwc]
              clear hwc
              obtain ⟨q0, hq0⟩ : ∃ q0 : Int, (if (K.length : Int) < (L.length : Int) then -1 else 0) = q0 := ⟨_, rfl⟩
              have HQ0 : Hid ((if (K.length : Int) < (L.length : Int) then -1 else 0) = q0) := hq0
              rw [hq0]
              clear hq0
              go_upto_if 92 with fail
              go_cut [12] from 14 (fun q wc => q = .int .i64 (sg (K.length : Int) (L.length : Int)) ∧ wc = w4)
              case first =>
                by_cases hlt : (L.length : Int) < (K.length : Int)
                · go_wp2_with fail
                  go_meet
                  case rel => exact ⟨by rw [sg_gt hlt], rfl⟩
                · go_wp2_with fail
                  go_meet
                  case rel => exact ⟨by rw [← HQ0.out]; unfold sg; split; rfl; rw [if_neg (by omega)], rfl⟩
              case rest =>
              obtain ⟨rfl, hwc⟩ := hcut
              rw [hwc]
              clear hwc HQ0 q0
              obtain ⟨mn, hmn⟩ : ∃ mn, sg (K.length : Int) (L.length : Int) = mn := ⟨_, rfl⟩
              have HMN : Hid (sg (K.length : Int) (L.length : Int) = mn) := hmn
              rw [hmn]
              clear hmn
              go_upto_if 94 with fail
              go_cut [11] from 14 (fun q wc => q = .int .i64 (if mn = 0 then lf else mn) ∧ wc = w4)
              case first =>
                by_cases h0 : mn = 0
                · have h1 : (mn == 0) = true := by simp [h0]
                  have h2 : (mn != 0) = false := by simp [h0]
                  have HM0 : Hid (mn = 0) := h0
                  clear h0
                  go_wp2_with fail
                  go_meet
                  case rel => exact ⟨by rw [if_pos HM0.out], rfl⟩
                · have h1 : (mn == 0) = false := by simp [h0]
                  have h2 : (mn != 0) = true := by simp [h0]
                  have HM0 : Hid (¬ mn = 0) := h0
                  clear h0
                  go_wp2_with fail
                  go_meet
                  case rel => exact ⟨by rw [if_neg HM0.out], rfl⟩
              case rest =>
              obtain ⟨rfl, hwc⟩ := hcut
              rw [hwc]
              clear hwc
              obtain ⟨wn, hwn⟩ : ∃ wn, (if mn = 0 then lf else mn) = wn := ⟨_, rfl⟩
              have HWN : Hid ((if mn = 0 then lf else mn) = wn) := hwn
              rw [hwn]
              clear hwn
              go_upto_if 97 with fail
              go_cut [9] from 14 (fun q wc => q = .int .i64 (if lf = 0 then mn else lf) ∧ wc = w4)
              case first =>
                by_cases h0 : lf = 0
                · have h1 : (lf == 0) = true := by simp [h0]
                  have HM0 : Hid (lf = 0) := h0
                  clear h0
                  go_wp2_with fail
                  go_meet
                  case rel => exact ⟨by rw [if_pos HM0.out], rfl⟩
                · have h1 : (lf == 0) = false := by simp [h0]
                  have HM0 : Hid (¬ lf = 0) := h0
                  clear h0
                  go_wp2_with fail
                  go_meet
                  case rel => exact ⟨by rw [if_neg HM0.out], rfl⟩
              case rest =>
              obtain ⟨rfl, hwc⟩ := hcut
              rw [hwc]
              clear hwc
              obtain ⟨fs, hfs⟩ : ∃ fs, (if lf = 0 then mn else lf) = fs := ⟨_, rfl⟩
              have HFS : Hid ((if lf = 0 then mn else lf) = fs) := hfs
              rw [hfs]
              clear hfs
              have HC1 : Hid ((tupT A).cmp (tupT B) = wn) := by
                show _ = wn
                rw [tup_cmp HIA.out HIB.out, HVA.out, HVB.out, ← HWN.out, ← HMN.out, ← HLF.out]
                rw [show (A.length : Int) = K.length by rw [← HVA.out]; simp, show (B.length : Int) = L.length by rw [← HVB.out]; simp]
              have HC2 : Hid ((listT A tmNil).cmp (listT B tmNil) = fs) := by
                show _ = fs
                rw [list_cmp HIA.out HIB.out, HVA.out, HVB.out, lexL_eq, ← HFS.out, ← HMN.out, ← HLF.out]
              have hA30 : A.length ≤ 30 := by
                have := congrArg List.length HVA.out
                simp at this
                omega
              have hB30 : B.length ≤ 30 := by
                have := congrArg List.length HVB.out
                simp at this
                omega
              have HO4 : Hid (Ord w4) := ho.out.under hB3
              clear HWN HFS HMN HLF
              go_upto_region 30 with fail
              have uN : Bt (w4.alloc (.cells #[.int .i64 3, .bool false, .slice none 0 0, .string ⟨#[]⟩, .int .i64 0, .slice none 0 0] 27)) w4.heap.size 3 false (.slice none 0 0) ⟨#[]⟩ 0 (.slice none 0 0) := Bt.new w4 3 false (.slice none 0 0) ⟨#[]⟩ 0 (.slice none 0 0) ⟨_, _, _, rfl⟩ ⟨_, _, _, rfl⟩
              have bN := (Below.refl w4.heap.size w4).alloc (Nat.le_refl _) (.cells #[.int .i64 3, .bool false, .slice none 0 0, .string ⟨#[]⟩, .int .i64 0, .slice none 0 0] 27)
              have HO5 := HO4.out.under bN
              have TA := HTA3.out.under bN
              have TB := HTB3.out.under bN
              replace hB3 := hB3.trans (bN.mono hB3.size)
              clear HO4 HTA3 HTB3 bN
              generalize w4.alloc (.cells #[.int .i64 3, .bool false, .slice none 0 0, .string ⟨#[]⟩, .int .i64 0, .slice none 0 0] 27) = w5 at *
              generalize w4.heap.size = gN at *
              have tok0 : Tok 0 := trivial
              have iTA : IsT w5 (tupT A) (.agg #[.int .i64 5, .bool false, .slice none 0 0, .string ⟨#[]⟩, .int .i64 0, .slice pA A.length cA]) := IsT.shut (by omega) (by omega) (by decide) (Sl.nil _) TA
              have iTB : IsT w5 (tupT B) (.agg #[.int .i64 5, .bool false, .slice none 0 0, .string ⟨#[]⟩, .int .i64 0, .slice pB B.length cB]) := IsT.shut (by omega) (by omega) (by decide) (Sl.nil _) TB
              have nT : (tupT A).nodes ≤ 1000000 := by rw [tupT, Tm.nodes_mk, ints_nodes HIA.out]; omega
              have nL : (listT A tmNil).nodes ≤ 1000000 := by rw [list_nodes A HIA.out]; omega
              have HK1 : Hid ((tupT A).cons2 ∧ (tupT B).cons2) := ⟨by simp only [tupT, Tm.cons2_mk]; exact ⟨by simp, ints_cons2 HIA.out⟩, by simp only [tupT, Tm.cons2_mk]; exact ⟨by simp, ints_cons2 HIB.out⟩⟩
              have HK2 : Hid ((listT A tmNil).cons2 ∧ (listT B tmNil).cons2) := ⟨list_cons2 A HIA.out, list_cons2 B HIB.out⟩
              obtain ⟨m0, m1, m2, m3, m4, m5⟩ := uN.cells
              go_region_held3 (fun w' => w'.cell? ⟨gN, 0, none⟩ = some (.int .i64 3) ∧ w'.cell? ⟨gN, 1, none⟩ = some (.bool false) ∧ w'.cell? ⟨gN, 2, none⟩ = some (.slice none 0 0) ∧ w'.cell? ⟨gN, 3, none⟩ = some (.string ⟨#[]⟩) ∧ w'.cell? ⟨gN, 4, none⟩ = some (.int .i64 0) ∧ w'.cell? ⟨gN, 5, none⟩ = some (.slice none 0 0))
                (first | exact (uN.under hcur).cells | exact (uN.under (Below.refl _ _).drew).cells)
                (first
                  | ((have := la; have := lb; go_at_call 10; refine (tcmp_any (listT A tmNil) (listT B tmNil) _ _ _ (HO5.under hcur) HK2.out.1 HK2.out.2 la lb nL).mono ?_; rw [HC2.out]; rintro e x4 ⟨rfl, b4⟩; replace hcur := hcur.trans (b4.mono hcur.size); clear la lb b4; have tok4 : Tok 4 := trivial))
                  | ((have := tok0; go_at_call 10; refine (tcmp_any (tupT A) (tupT B) _ _ _ (HO5.under (Below.refl _ _).drew) HK1.out.1 HK1.out.2 (iTA.under (Below.refl _ _).drew) (iTB.under (Below.refl _ _).drew) nT).mono ?_; rw [HC1.out]; rintro e x1 ⟨rfl, b1⟩; clear tok0; have tok1 : Tok 1 := trivial; have hcur : Below w5.heap.size w5 x1 := (Below.refl _ _).drew.trans b1; clear b1))
                  | ((have := tok1; go_at_call_of 15 (Value.slice pA A.length cA); refine (list_any _ _ A tmNil _ (TA.under hcur) (nil_is _)).mono ?_; rintro e xa ⟨va', rfl, la, ba⟩; replace hcur := hcur.trans (ba.mono hcur.size); (try (replace lb := lb.under ba)); clear ba))
                  | ((have := tok1; go_at_call_of 15 (Value.slice pB B.length cB); refine (list_any _ _ B tmNil _ (TB.under hcur) (nil_is _)).mono ?_; rintro e xb ⟨vb', rfl, lb, bb⟩; replace hcur := hcur.trans (bb.mono hcur.size); (try (replace la := la.under bb)); clear bb))
                  | ((have := tok4; go_at_call 9; refine (tawake_any _).mono ?_; rintro e x5 ⟨rfl, b5⟩; replace hcur := hcur.trans (b5.mono hcur.size); clear b5)))
              all_goals
                go_wp2_with fail
                go_ret
                exact ⟨rfl, hB3.trans (hcur.mono hB3.size)⟩
    · have hL' : (30 : Int) < (L.length : Int) := by omega
      go_enter Tryd.func7, Tryd.ntmps7
      go_wp2_with fail
      refine (tawake_any _).mono ?_
      rintro e x5 ⟨rfl, b5⟩
      go_wp2_with fail
      go_ret
      exact ⟨rfl, b5⟩
  · have hK' : (30 : Int) < (K.length : Int) := by omega
    go_enter Tryd.func7, Tryd.ntmps7
    go_wp2_with fail
    refine (tawake_any _).mono ?_
    rintro e x5 ⟨rfl, b5⟩
    go_wp2_with fail
    go_ret
    exact ⟨rfl, b5⟩
end Go.Proofs.YtfcdocgjmgpmkaaDoor
