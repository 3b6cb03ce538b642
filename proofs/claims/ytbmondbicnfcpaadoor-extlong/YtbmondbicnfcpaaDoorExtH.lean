
/-
  ext: putAll, Put.
-/
import Derived.Test.YtbmondbicnfcpaaDoorExtG
import Derived.Deep.CutRange
namespace Go.Proofs.YtbmondbicnfcpaaDoor
open Go.RowKit
set_option linter.unusedVariables false
set_option linter.unusedSimpArgs false

theorem alone_kind {t : Tm} (h : t.alone = true) : t.kind = 1 ∨ t.kind = 2 ∨ t.kind = 3 ∨ t.kind = 4 ∨ t.kind = 5 ∨ t.kind = 6 := by
  unfold Tm.alone aloneK at h
  by_cases h1 : t.kind = 1
  · exact .inl h1
  by_cases h2 : t.kind = 2
  · exact .inr (.inl h2)
  by_cases h3 : t.kind = 3
  · exact .inr (.inr (.inl h3))
  by_cases h4 : t.kind = 4
  · exact .inr (.inr (.inr (.inl h4)))
  by_cases h5 : t.kind = 5
  · exact .inr (.inr (.inr (.inr (.inl h5))))
  by_cases h6 : t.kind = 6
  · exact .inr (.inr (.inr (.inr (.inr h6))))
  rw [if_neg h1, if_neg h2, if_neg h3, if_neg h4, if_neg h5, if_neg h6] at h
  cases h
theorem alone_1 {t : Tm} (h : t.alone = true) (hk : t.kind = 1) : Good t.neg t.limbs := by
  unfold Tm.alone aloneK at h
  rw [if_pos hk, Bool.and_eq_true] at h
  exact (goodB_iff _ _).1 h.1
theorem alone_2 {t : Tm} (h : t.alone = true) (hk : t.kind = 2) : 1 ≤ t.str.size ∧ t.str.size ≤ 40 := by
  unfold Tm.alone aloneK at h
  rw [if_neg (by omega), if_pos hk, Bool.and_eq_true] at h
  have := h.1
  simp [nameB] at this
  exact this.1
theorem alone_5 {t : Tm} (h : t.alone = true) (hk : t.kind = 5) : t.kids.length ≤ 40 := by
  unfold Tm.alone aloneK at h
  rw [if_neg (by omega), if_neg (by omega), if_neg (by omega), if_neg (by omega), if_pos hk, Bool.and_eq_true] at h
  simpa using h.1
theorem alone_6 {t : Tm} (h : t.alone = true) (hk : t.kind = 6) : t.str.size ≤ 400 := by
  unfold Tm.alone aloneK at h
  rw [if_neg (by omega), if_neg (by omega), if_neg (by omega), if_neg (by omega), if_neg (by omega), if_pos hk, Bool.and_eq_true] at h
  simpa using h.1

theorem step_app_rb {ops : Array Oper} {o : Oper} {a : Act} {w : World} {K : Act → World → Prop} {Q : Exit → Act → World → Prop} {E : Prop}
    (hgd : o.guard = none) (s x : Operand) (ho : o.op = .call { callee := .builtin .append, args := #[s, x], argTypes := #[35, 35] }) (base : Nat) (v : Value) (l : List UInt8) (hs : a.eval s = v) (h : RB w base v l) (hl : l.length ≤ 1000000000) (hb : base ≤ w.heap.size)
    (ad : Addr) (m c : Nat) (news : List UInt8) (hx : a.eval x = .slice (some ad) m c) (h0 : 0 < m) (hm : m ≤ 1000000000) (hn : news.length = m) (hc : ∀ j u, (bv news)[j]? = some u → w.cell? (ad.add j) = some u)
    (hK : ∀ v' w', OB w' base v' (l ++ news) → (∀ B W, B ≤ w.heap.size → B ≤ base → Below B W w → Below B W w') → Keep w w' → K (a.put o.dst v') w') :
    if Region.wanted o (yielded ops a.tmps) = true then Oper.wp Tryd.prog o a w K Q else E := by
  have hw : Region.wanted o (yielded ops a.tmps) = true := by simp [Region.wanted, hgd]
  rw [if_pos hw]
  obtain ⟨v', w', hr, h1, h2, h3⟩ := run_append_rb w base o.type v l h hl hb ad m c news h0 hm hn hc
  unfold Oper.wp
  simp [execOp, ho, resolve, invoke, builtin, hs, hx, hr, Result.andThen]
  exact hK v' w' h1 h2 h3

set_option maxRecDepth 100000 in
/-- A text's bytes behind a row of the call's own. -/
theorem wpList_append_obs {w : World} {ops : Array Oper} {rest : List Oper} {o : Oper} {a : Act} {Q : Exit → Act → World → Prop} (hgd : o.guard = none) (s x : Operand)
    (ho : o.op = .call { callee := .builtin .append, args := #[s, x], argTypes := #[35, 9] }) (base : Nat) (v : Value) (l : List UInt8) (hs : a.eval s = v) (h : OB w base v l) (S : ByteArray) (hx : a.eval x = .string S) (hl : l.length + S.size ≤ 1000000000) (hb : base ≤ w.heap.size)
    (hK : ∀ v' w', OB w' base v' (l ++ S.data.toList) → (∀ B W, B ≤ w.heap.size → B ≤ base → Below B W w → Below B W w') → Keep w w' → wpList Tryd.prog ops Q rest (a.put o.dst v') w') : wpList Tryd.prog ops Q (o :: rest) a w := by
  obtain ⟨i, hi, hz0, hz1, hz2⟩ := info_parts Tryd.infoB
  obtain ⟨v', w', hr, h1, h2, _⟩ := Lib.run_append_own_string (P := Tryd.prog) w base 35 9 o.type 5 i Tryd.underlying35 Tryd.underlying9 hi hz0 hz1 hz2 v l.length (bv l) h S (by unfold maxLen; omega) (by omega) hb
  refine wpList_plain hgd fun K hK' => ?_
  unfold Oper.wp
  simp [execOp, ho, resolve, invoke, builtin, hs, hx, hr, Result.andThen]
  exact hK' _ _ (hK v' w' (OB.more (m := S.data.toList) (by rw [← bv_str]; exact h1) (by rw [Array.length_toList]; rfl)) (fun B W h4 h5 h6 => OB.belowG h h6 h2 h4 h5) (Keep.row h h2))

/-- The loop's state. -/
def PaSt (W0 w : World) (v0 : Value) (l : List UInt8) (K : List Tm) (k : Nat) (v : Value) (wr : World) : Prop :=
  (k = 0 → v = v0 ∧ wr = w) ∧ RB wr W0.heap.size v (l ++ putK (K.take k)) ∧ (0 < k → OB wr W0.heap.size v (l ++ putK (K.take k))) ∧ (putK (K.take k)).length ≤ 410 * nodesL (K.take k) ∧ Below W0.heap.size W0 wr ∧ Keep w wr
theorem nodes_take1 (K : List Tm) (k : Nat) (h : k < K.length) : nodesL (K.take (k + 1)) = nodesL (K.take k) + K[k].nodes := by
  rw [List.take_succ_eq_append_getElem h, nodesL_app]
  simp [nodesL]
theorem PaSt.step {W0 w wr w' : World} {l L : List UInt8} {K : List Tm} {k : Nat} {v0 v v' : Value} (h : PaSt W0 w v0 l K k v wr) (hk : k < K.length) (ho : OB w' W0.heap.size v' (l ++ putK (K.take k) ++ L)) (hL : L = putT K[k]) (hn : L.length ≤ 410 * K[k].nodes) (hW : Below W0.heap.size W0 w') (kp : Keep wr w') :
    PaSt W0 w v0 l K (k + 1) v' w' := by
  obtain ⟨-, h1, h2, h3, h4, h5⟩ := h
  have e : l ++ putK (K.take (k + 1)) = l ++ putK (K.take k) ++ L := by rw [putK_take K k hk, hL, List.append_assoc]
  refine ⟨fun h => absurd h (by omega), by rw [e]; exact .inl ho, fun _ => by rw [e]; exact ho, ?_, hW, h5.trans kp⟩
  rw [putK_take K k hk, nodes_take1 K k hk, List.length_append, ← hL]
  omega

set_option maxRecDepth 100000 in
set_option maxHeartbeats 8000000 in
theorem putAll_step (n : Nat) (HA : Hid (PutUpto n)) : PutUpto (n + 1) := by
  intro K W0 w v vs l hn hW hR hRd hok hl
  obtain ⟨a, cap, rfl, hc1, hc2, hc3⟩ := hRd.shape
  have hKl : K.length ≤ 300000 := by have := len_nodes K; omega
  have HW : Hid (Below W0.heap.size W0 w) := hW
  have HRd : Hid (RdT W0 w (.slice a K.length cap) K) := hRd
  have HOK : Hid (∀ t ∈ K, ∃ d, okD t d) := hok
  have HST : Hid (PaSt W0 w v l K 0 v w) := ⟨fun _ => ⟨rfl, rfl⟩, by simpa [putK] using hR, fun h => absurd h (by omega), by simp [putK], hW, Keep.refl w⟩
  clear hW hR hRd hok
  obtain ⟨i0, hi, hz0, hz1, hz2⟩ := info_parts Tryd.infoB
  go_enter Tryd.func43, Tryd.ntmps43
  go_wp2_with fail
  go_loopg [0, 9] K.length (fun gk s0 s9 wr => ∃ k : Nat, k + gk = K.length ∧ s9 = .int .i64 (k : Int) ∧ Hid (PaSt W0 w v l K k s0 wr))
  case atStart => exact ⟨0, by omega, rfl, HST⟩
  case round =>
    obtain ⟨k, hk, rfl, hst⟩ := hrel
    clear HST
    cases gk with
    | zero =>
      obtain rfl : k = K.length := by omega
      go_wp2_with fail
      go_ret
      obtain ⟨h0, h1, h2, h3, h4, h5⟩ := hst.out
      rw [List.take_length] at h1 h2 h3
      exact ⟨_, rfl, h1, h2, h0, h3, h4, h5⟩
    | succ g =>
      have hkK : k < K.length := by omega
      obtain ⟨b, off, u, rfl, h6, hu⟩ := (HRd.out.keep HW.out hst.out.2.2.2.2.1 hst.out.2.2.2.2.2).at k hkK
      obtain ⟨d, hd⟩ := HOK.out K[k] (List.getElem_mem hkK)
      have hnk := nodes_take1 K k hkK
      have hnt := nodes_take K (k + 1)
      have hl3 := hst.out.2.2.2.1
      have hnp := nodes_pos K[k]
      have hne := Tm.nodes_eq K[k]
      obtain ⟨t, htd⟩ : ∃ t, t = K[k] := ⟨_, rfl⟩
      rw [← htd] at hu hd hnk hnp hne
      obtain ⟨sl, sk, rfl, hls, hks, -, -, hS⟩ := hu.open
      obtain ⟨pl, cl, rfl⟩ := hls.shape
      obtain ⟨pk, ck, rfl, hk1, hk2, hk3⟩ := hks.shape
      obtain ⟨c0, c1, c2, c3, c4, c5, hv, x0, x1, x2, x3, x4, x5⟩ := h6
      simp only [tmV, Value.agg.injEq, List.toArray_inj, List.cons.injEq, and_true] at hv
      obtain ⟨rfl, rfl, rfl, rfl, rfl, rfl⟩ := hv
      have hkn : (k : Int) < (K.length : Int) := by omega
      obtain ⟨ls, hlsd⟩ : ∃ ls, ls = l ++ putK (K.take k) := ⟨_, rfl⟩
      have hll : ls.length ≤ 90000000 := by rw [hlsd, List.length_append]; omega
      have hRr : RB wr W0.heap.size u0 ls := by rw [hlsd]; exact hst.out.2.1
      have hWr : Below W0.heap.size W0 wr := hst.out.2.2.2.2.1
      have HLS : Hid (ls = l ++ putK (K.take k)) := hlsd
      have HT : Hid (t = K[k]) := htd
      have hnK : nodesL (K.take k) + t.nodes ≤ n ∧ ls.length + 410 * t.nodes ≤ 90000000 := by
        rw [hlsd, List.length_append]; omega
      obtain ⟨hnK1, hnK2⟩ := hnK
      have HD : Hid (okD t d) := hd
      have HU : Hid (IsT W0 t (tmV t.kind t.neg (.slice pl t.limbs.length cl) t.str t.num (.slice pk t.kids.length ck))) := hu
      have HLs : Hid (Sl W0 (.slice pl t.limbs.length cl) t.limbs) := hls
      have HKs : Hid (Ts W0 (.slice pk t.kids.length ck) t.kids) := hks
      obtain ⟨wA, hwA⟩ : ∃ wA, wr.alloc (.cells #[.int .i64 t.kind, .bool t.neg, .slice pl t.limbs.length cl, .string t.str, .int .i64 t.num, .slice pk t.kids.length ck] 29) = wA := ⟨_, rfl⟩
      have hBt : Bt wA wr.heap.size t.kind t.neg (.slice pl t.limbs.length cl) t.str t.num (.slice pk t.kids.length ck) := by rw [← hwA]; exact Bt.new wr _ _ _ _ _ _ ⟨_, _, _, rfl⟩ ⟨_, _, _, rfl⟩
      have hBA : Below wr.heap.size wr wA := by rw [← hwA]; exact (Below.refl _ _).alloc (Nat.le_refl _) _
      have hRA : RB wA W0.heap.size u0 ls := hRr.under hBA
      have hWA : Below W0.heap.size W0 wA := hWr.trans (hBA.mono hWr.size)
      have hsA := hWA.size
      have HKA : Hid (Keep wr wA) := Keep.below hBA
      have HBt : Hid (Bt wA wr.heap.size t.kind t.neg (.slice pl t.limbs.length cl) t.str t.num (.slice pk t.kids.length ck)) := hBt
      have HRA : Hid (RB wA W0.heap.size u0 ls) := hRA
      have HWA : Hid (Below W0.heap.size W0 wA) := hWA
      obtain ⟨a0, a1, a2, a3, a4, a5⟩ := hBt.cells
      have hkd := alone_kind hd.alone
      clear hu hls hks hd hlsd htd hRr hWr hBt hBA hRA hWA hnt hl3 hnk
      have hKid : ∀ j, j < t.kids.length → True := fun _ _ => trivial
      rcases hkd with h1 | h2 | h3 | h4 | h5 | h6
      · have HG : Hid (IsN W0 (.agg #[.bool t.neg, .slice pl t.limbs.length cl]) (Z t.neg (V t.limbs))) := ⟨t.neg, t.limbs, ⟨_, rfl, HLs.out⟩, alone_1 HD.out.alone h1, rfl⟩
        have HP : Hid (intL (Z t.neg (V t.limbs)) = putT K[k]) := by rw [← HT.out]; exact (putT_1 h1).symm
        have q1 : (t.kind == 1) = true := by simp [h1]
        clear h1
        go_wp2_with fail
        refine (putInt_any W0 u0 _ ls _ wA HWA.out HRA.out HG.out (by omega)).mono ?_
        rintro e w2 ⟨v2, L, rfl, o2, hL, hW2, k2⟩
        have HN : Hid (PaSt W0 w v l K (k + 1) v2 w2) := hst.out.step hkK (by rw [← HLS.out]; exact o2) (by rw [hL.eq.1]; exact HP.out) (by have := hL.eq.2; rw [← HT.out]; omega) hW2 (HKA.out.trans k2)
        clear o2 hL hW2 k2
        go_wp2_with fail
        go_roundg g
        case measure => omega
        case rel => exact ⟨k + 1, by omega, by go_num, HN⟩
      · have hsz := alone_2 HD.out.alone h2
        obtain ⟨hs1, hs2⟩ := hsz
        have HP : Hid (119 :: UInt8.ofNat t.str.size :: t.str.data.toList = putT K[k]) := by rw [← HT.out]; exact (putT_2 h2).symm
        have q1 : (t.kind == 1) = false := by simp [h2]
        have q2 : (t.kind == 2) = true := by simp [h2]
        have hs3 : (t.str.size : Int) ≤ 40 := by omega
        have hnw : ∀ j u, (bv [119, UInt8.ofNat t.str.size])[j]? = some u → (wA.alloc (.cells #[.int .u8 119, .int .u8 (t.str.size : Int)] 5)).cell? ((⟨wA.heap.size, 0, none⟩ : Addr).add j) = some u := by
          have e : bv [119, UInt8.ofNat t.str.size] = [.int .u8 119, .int .u8 (t.str.size : Int)] := by
            simp only [bv, List.map_cons, List.map_nil, u8n]
            congr 2
            congr 1
            omega
          rw [e]
          exact new_cells wA _ _
        have HNW : Hid _ := hnw
        clear h2 hnw
        go_wp2_with (first
          | (at_builtin; refine wpList_append_rb rfl _ _ rfl W0.heap.size _ ls rfl (HRA.out.under ((Below.refl _ _).alloc (Nat.le_refl _) _)) (by omega) (by simp; omega) ⟨wA.heap.size, 0, none⟩ 2 2 [119, UInt8.ofNat t.str.size] rfl (by omega) (by omega) rfl HNW.out ?_; intro v2 w2 o2 g2 k2; obtain ⟨b0, b1, b2, b3, b4, b5⟩ := ((HBt.out.keep (Keep.alloc _ _)).keep k2).cells; have hs2w : W0.heap.size ≤ w2.heap.size := Nat.le_trans (Nat.le_trans hsA (Keep.alloc _ _).1) k2.1; have HW2 : Hid (Below W0.heap.size W0 w2) := g2 _ _ (by simp; omega) (Nat.le_refl _) (HWA.out.alloc hsA _); have HK2 : Hid (Keep wA w2) := (Keep.alloc _ _).trans k2; clear g2 k2)
          | (at_builtin; refine wpList_append_obs rfl _ _ rfl W0.heap.size _ _ rfl o2 t.str rfl (by simp; omega) hs2w ?_; intro v3 w3 o3 g3 k3)
          | fail)
        have HN : Hid (PaSt W0 w v l K (k + 1) v3 w3) := hst.out.step hkK (by rw [← HLS.out, ← HP.out]; simpa using o3) rfl (by rw [← HP.out, ← HT.out, List.length_cons, List.length_cons, show t.str.data.toList.length = t.str.size from Array.length_toList]; omega) (g3 _ _ hs2w (Nat.le_refl _) HW2.out) ((HKA.out.trans HK2.out).trans k3)
        clear o2 o3 g3 k3
        go_wp2_with fail
        go_roundg g
        case measure => omega
        case rel => exact ⟨k + 1, by omega, by go_num, HN⟩
      · have HP : Hid ([106] = putT K[k]) := by rw [← HT.out]; exact (putT_3 h3).symm
        have q1 : (t.kind == 1) = false := by simp [h3]
        have q2 : (t.kind == 2) = false := by simp [h3]
        have q3 : (t.kind == 3) = true := by simp [h3]
        have HNW : Hid (∀ j u, (bv [106])[j]? = some u → (wA.alloc (.cells #[.int .u8 106] 5)).cell? ((⟨wA.heap.size, 0, none⟩ : Addr).add j) = some u) := new_cells wA (bv [106]) _
        clear h3
        go_wp2_with (first
          | (at_builtin; refine wpList_append_rb rfl _ _ rfl W0.heap.size _ ls rfl (HRA.out.under ((Below.refl _ _).alloc (Nat.le_refl _) _)) (by omega) (by simp; omega) ⟨wA.heap.size, 0, none⟩ 1 1 [106] rfl (by omega) (by omega) rfl HNW.out ?_; intro v2 w2 o2 g2 k2)
          | fail)
        have HN : Hid (PaSt W0 w v l K (k + 1) v2 w2) := hst.out.step hkK (by rw [← HLS.out, ← HP.out]; exact o2) rfl (by rw [← HP.out, ← HT.out]; simp; omega) (g2 _ _ (by simp; omega) (Nat.le_refl _) (HWA.out.alloc hsA _)) ((HKA.out.trans (Keep.alloc _ _)).trans k2)
        clear o2 g2 k2
        go_wp2_with fail
        go_roundg g
        case measure => omega
        case rel => exact ⟨k + 1, by omega, by go_num, HN⟩
      · have HSP := okD_split t.nodes t d (Nat.le_refl _) HD.out
        obtain ⟨H, tl, hH, htl, hH0⟩ := HSP
        have hH0 := hH0 h4
        have hnl := nodes_list tl H
        rw [← hH] at hnl
        have hna : nodesL (H ++ [tl]) + H.length = t.nodes := by rw [nodesL_app]; simp [nodesL]; omega
        have HP : Hid (108 :: (four H.length ++ putK (H ++ [tl])) = putT K[k]) := by rw [← HT.out, hH]; exact (putT_list tl htl H hH0).symm
        have HDL : Hid (∀ t ∈ H ++ [tl], ∃ d, okD t d) := by
          have h := HD.out
          rw [hH] at h
          obtain ⟨h1, h2⟩ := (okD_list tl d H).1 h
          intro t ht
          rcases List.mem_append.1 ht with ht | ht
          · exact ⟨_, h1 t ht⟩
          · simp only [List.mem_singleton] at ht
            subst ht
            exact ⟨_, h2⟩
        have HUL : Hid (IsT W0 (listT H tl) (tmV t.kind t.neg (.slice pl t.limbs.length cl) t.str t.num (.slice pk t.kids.length ck))) := by rw [← hH]; exact HU.out
        have q1 : (t.kind == 1) = false := by simp [h4]
        have q2 : (t.kind == 2) = false := by simp [h4]
        have q3 : (t.kind == 3) = false := by simp [h4]
        have q4 : (t.kind == 4) = true := by simp [h4]
        clear h4 hH hnl
        go_wp2_with fail
        refine (putList_of n HA H tl W0 wA u0 _ ls htl (by omega) HWA.out HRA.out HUL.out HDL.out (by omega)).mono ?_
        rintro e w2 ⟨v2, rfl, o2, l2, hW2, k2⟩
        have HN : Hid (PaSt W0 w v l K (k + 1) v2 w2) := hst.out.step hkK (by rw [← HLS.out, ← HP.out]; exact o2) rfl (by rw [← HP.out, ← HT.out]; simp [four]; omega) hW2 (HKA.out.trans k2)
        clear o2 hW2 k2
        go_wp2_with fail
        go_roundg g
        case measure => omega
        case rel => exact ⟨k + 1, by omega, by go_num, HN⟩
      · have hkz := alone_5 HD.out.alone h5
        have HP : Hid (104 :: UInt8.ofNat t.kids.length :: putK t.kids = putT K[k]) := by rw [← HT.out]; exact (putT_5 h5).symm
        have HDL : Hid (∀ x ∈ t.kids, ∃ d, okD x d) := fun x hx => ⟨_, HD.out.kid (by omega) x hx⟩
        have q1 : (t.kind == 1) = false := by simp [h5]
        have q2 : (t.kind == 2) = false := by simp [h5]
        have q3 : (t.kind == 3) = false := by simp [h5]
        have q4 : (t.kind == 4) = false := by simp [h5]
        have q5 : (t.kind == 5) = true := by simp [h5]
        have hk3 : (t.kids.length : Int) ≤ 40 := by omega
        have HNW : Hid (∀ j u, (bv [104, UInt8.ofNat t.kids.length])[j]? = some u → (wA.alloc (.cells #[.int .u8 104, .int .u8 (t.kids.length : Int)] 5)).cell? ((⟨wA.heap.size, 0, none⟩ : Addr).add j) = some u) := by
          have e : bv [104, UInt8.ofNat t.kids.length] = [.int .u8 104, .int .u8 (t.kids.length : Int)] := by
            simp only [bv, List.map_cons, List.map_nil, u8n]
            congr 2
            congr 1
            omega
          unfold Hid
          rw [e]
          exact new_cells wA _ _
        clear h5
        go_wp2_with (first
          | (at_builtin; refine wpList_append_rb rfl _ _ rfl W0.heap.size _ ls rfl (HRA.out.under ((Below.refl _ _).alloc (Nat.le_refl _) _)) (by omega) (by simp; omega) ⟨wA.heap.size, 0, none⟩ 2 2 [104, UInt8.ofNat t.kids.length] rfl (by omega) (by omega) rfl HNW.out ?_; intro v2 w2 o2 g2 k2; obtain ⟨b0, b1, b2, b3, b4, b5⟩ := ((HBt.out.keep (Keep.alloc _ _)).keep k2).cells; have HW2 : Hid (Below W0.heap.size W0 w2) := g2 _ _ (by simp; omega) (Nat.le_refl _) (HWA.out.alloc hsA _); have HK2 : Hid (Keep wA w2) := (Keep.alloc _ _).trans k2; have HO2 : Hid (OB w2 W0.heap.size v2 (ls ++ [104, UInt8.ofNat t.kids.length])) := o2; clear g2 k2 o2)
          | fail)
        refine (HA.out t.kids W0 w2 v2 _ (ls ++ [104, UInt8.ofNat t.kids.length]) (by omega) HW2.out (.inl HO2.out) (RdT.of HKs.out HW2.out) HDL.out (by simp; omega)).mono ?_
        rintro e w3 ⟨v3, rfl, r3, o3, z3, l3, hW3, k3⟩
        have hO3 : OB w3 W0.heap.size v3 (ls ++ [104, UInt8.ofNat t.kids.length] ++ putK t.kids) := by
          by_cases h0 : 0 < t.kids.length
          · exact o3 h0
          · obtain ⟨e1, e2⟩ := z3 (by omega)
            have e3 : t.kids = [] := List.eq_nil_of_length_eq_zero (by omega)
            rw [e1, e2, show putK t.kids = [] by rw [e3]; rfl, List.append_nil]
            exact HO2.out
        have HN : Hid (PaSt W0 w v l K (k + 1) v3 w3) := hst.out.step hkK (by rw [← HLS.out, ← HP.out]; simpa using hO3) rfl (by rw [← HP.out, ← HT.out]; simp; omega) hW3 ((HKA.out.trans HK2.out).trans k3)
        clear r3 o3 hW3 k3 hO3
        go_wp2_with fail
        go_roundg g
        case measure => omega
        case rel => exact ⟨k + 1, by omega, by go_num, HN⟩
      · have hkz := alone_6 HD.out.alone h6
        have HP : Hid (109 :: (four t.str.size ++ t.str.data.toList) = putT K[k]) := by rw [← HT.out]; exact (putT_6 h6).symm
        have q1 : (t.kind == 1) = false := by simp [h6]
        have q2 : (t.kind == 2) = false := by simp [h6]
        have q3 : (t.kind == 3) = false := by simp [h6]
        have q4 : (t.kind == 4) = false := by simp [h6]
        have q5 : (t.kind == 5) = false := by simp [h6]
        have q6 : (t.kind == 6) = true := by simp [h6]
        clear h6
        go_wp2_with fail
        have hs3 : (t.str.size : Int) ≤ 400 := by omega
        have bA := (Below.refl wA.drew.heap.size wA.drew).alloc (Nat.le_refl _) (.cells #[.int .u8 109] 5)
        have bD : Below wA.heap.size wA wA.drew := (Below.refl _ _).drew
        have hBd : Bt wA.drew wr.heap.size t.kind t.neg (.slice pl t.limbs.length cl) t.str t.num (.slice pk t.kids.length ck) := HBt.out.under bD
        have HBA : Hid (Bt (wA.drew.alloc (.cells #[.int .u8 109] 5)) wr.heap.size t.kind t.neg (.slice pl t.limbs.length cl) t.str t.num (.slice pk t.kids.length ck)) := hBd.under bA
        have HRd2 : Hid (RB (wA.drew.alloc (.cells #[.int .u8 109] 5)) W0.heap.size u0 ls) := (HRA.out.under bD).under bA
        have HNA : Hid (∀ j u, (bv [109])[j]? = some u → (wA.drew.alloc (.cells #[.int .u8 109] 5)).cell? ((⟨wA.drew.heap.size, 0, none⟩ : Addr).add j) = some u) := new_cells wA.drew (bv [109]) _
        have HWd : Hid (Below W0.heap.size W0 (wA.drew.alloc (.cells #[.int .u8 109] 5))) := HWA.out.drew.alloc (by exact hsA) _
        have HSd : Hid (W0.heap.size ≤ (wA.drew.alloc (.cells #[.int .u8 109] 5)).heap.size) := HWd.out.size
        have HKd : Hid (Keep wA (wA.drew.alloc (.cells #[.int .u8 109] 5))) := (Keep.below bD).trans (Keep.below bA)
        have bA0 := (Below.refl wA.heap.size wA).alloc (Nat.le_refl _) (.cells #[.int .u8 109] 5)
        obtain ⟨e0, e1, e2, e3, e4, e5⟩ := (HBt.out.under bA0).cells
        clear bA bD hBd bA0
        go_cut [0] from 59 to 65 (fun s0 wc => Hid (OB wc W0.heap.size s0 (ls ++ [109] ++ four (u32of (t.str.size : Int))) ∧ Below W0.heap.size W0 wc ∧ Keep wA wc))
        case first =>
          go_region_law (first
            | (refine step_app_rb rfl (.tmp 59) (.tmp 60) rfl W0.heap.size u0 ls (by simp [Act.eval, Act.put]) HRd2.out (by omega) HSd.out ⟨wA.drew.heap.size, 0, none⟩ 1 1 [109] (by simp [Act.eval, Act.put]) (by omega) (by omega) rfl HNA.out ?_; intro v2 w2 o2 g2 k2; have hW2 : Below W0.heap.size W0 w2 := g2 _ _ HSd.out (Nat.le_refl _) HWd.out; obtain ⟨b0, b1, b2, b3, b4, b5⟩ := (HBA.out.keep k2).cells)
            | (go_simp; go_at_call 77; refine (putFour_any W0.heap.size v2 (ls ++ [109]) (t.str.size : Int) w2 o2 (by simp; omega) (by omega) (by omega) hW2.size).mono ?_; rintro e w3 ⟨v3, rfl, o3, g3⟩))
          all_goals
            go_wp2_with fail
            go_meet
            case rel => exact ⟨o3, OB.belowG o2 hW2 g3 hW2.size (Nat.le_refl _), (HKd.out.trans k2).trans (Keep.row o2 g3)⟩
        case rest =>
          clear e0 e1 e2 e3 e4 e5
          obtain ⟨o3, hW3, k3⟩ := hcut.out
          obtain ⟨b0, b1, b2, b3, b4, b5⟩ := (HBt.out.keep k3).cells
          have HO3 : Hid (OB wc W0.heap.size u0 (ls ++ [109] ++ four (u32of (t.str.size : Int)))) := o3
          have hs3w := hW3.size
          have HW3 : Hid (Below W0.heap.size W0 wc ∧ Keep wA wc) := ⟨hW3, k3⟩
          clear o3 hW3 k3 hcut HRd2 HNA HWd HSd HKd HBA
          go_wp2_with (first
            | (at_builtin; refine wpList_append_obs rfl _ _ rfl W0.heap.size _ _ rfl HO3.out t.str rfl (by simp [four]; omega) hs3w ?_; intro v4 w4 o4 g4 k4)
            | fail)
          have HN : Hid (PaSt W0 w v l K (k + 1) v4 w4) := by
            have e1 : u32of (t.str.size : Int) = t.str.size := by unfold u32of; omega
            rw [e1] at o4
            exact hst.out.step hkK (by rw [← HLS.out, ← HP.out]; simpa using o4) rfl (by rw [← HP.out, ← HT.out, List.length_cons, List.length_append, show t.str.data.toList.length = t.str.size from Array.length_toList]; simp [four]; omega) (g4 _ _ hs3w (Nat.le_refl _) HW3.out.1) ((HKA.out.trans HW3.out.2).trans k4)
          clear o4 g4 k4
          go_wp2_with fail
          go_roundg g
          case measure => omega
          case rel => exact ⟨k + 1, by omega, by go_num, HN⟩
theorem putUpto : ∀ n, PutUpto n
  | 0 => fun K W0 w v vs l hn => absurd hn (by omega)
  | n + 1 => putAll_step n (putUpto n)
/-- putAll. -/
theorem putAll_any (K : List Tm) (W0 w : World) (v vs : Value) (l : List UInt8) (hW : Below W0.heap.size W0 w) (hR : RB w W0.heap.size v l) (hRd : RdT W0 w vs K) (hok : ∀ t ∈ K, ∃ d, okD t d) (hl : l.length + 410 * nodesL K ≤ 90000000) :
    Calls Tryd.prog 43 #[v, vs] w fun e w' => PutKPost W0 w v l K e w' := putUpto (nodesL K + 1) K W0 w v vs l (by omega) hW hR hRd hok hl

/-- What Put answers. -/
def putO (t : Tm) : List UInt8 := if t.ok = true then putT t else []
def PPost (w : World) (l : List UInt8) (t : Tm) (e : Ending) (w' : World) : Prop :=
  ∃ v', e = .returned v' ∧ RB w' w.heap.size v' (l ++ putO t) ∧ (putO t).length ≤ 820000 ∧ Below w.heap.size w w'
end Go.Proofs.YtbmondbicnfcpaaDoor
