
/-
  relictref03.walk, Check: what they answer.
-/
import Derived.Test.YtbmondbicnfcpaaDoorTermRX
import Derived.Test.YtbmondbicnfcpaaDoorZExtA
namespace Go.Proofs.YtbmondbicnfcpaaDoor
open Go.RowKit
set_option linter.unusedVariables false
set_option linter.unusedSimpArgs false

theorem take_nodes (K : List Tm) (i : Nat) (hi : i < K.length) : ((nodesL (K.take (i + 1)) : Nat) : Int) = (nodesL (K.take i) : Int) + (K[i].nodes : Int) := by
  rw [List.take_succ_eq_append_getElem hi, nodesL_app]
  simp [nodesL]
theorem mem_nodes (K : List Tm) (i : Nat) (hi : i < K.length) : K[i].nodes ≤ nodesL K := by
  have h1 := nodesL_app (K.take i) (K.drop i)
  rw [List.take_append_drop, List.drop_eq_getElem_cons hi] at h1
  simp only [nodesL] at h1
  omega
/-- How deep a part lies. -/
def dpt (t : Tm) (d j : Nat) : Nat := if t.kind = 4 ∧ j = 1 then d else d + 1
theorem okD_at {t : Tm} {d : Nat} (h : okD t d) (j : Nat) (hj : j < t.kids.length) : okD t.kids[j] (dpt t d j) := by
  unfold dpt
  by_cases h4 : t.kind = 4
  · obtain ⟨a, b, rfl⟩ := alone_cons h.alone h4
    obtain ⟨h1, h2⟩ := (okD_cons a b d).1 h
    have hj2 : j < 2 := hj
    rcases (show j = 0 ∨ j = 1 by omega) with rfl | rfl
    · rw [if_neg (fun h => absurd h.2 (by decide))]; exact h1
    · rw [if_pos ⟨h4, rfl⟩]; exact h2
  · rw [if_neg (fun h => h4 h.1)]
    exact h.kid h4 _ (List.getElem_mem hj)
theorem okD_all {t : Tm} {d : Nat} (ha : t.alone = true) (hd : d ≤ 60) (h : ∀ (j : Nat) (hj : j < t.kids.length), okD t.kids[j] (dpt t d j)) : okD t d := by
  by_cases h4 : t.kind = 4
  · obtain ⟨a, b, rfl⟩ := alone_cons ha h4
    have h0 := h 0 (show 0 < 2 by decide)
    have h1 := h 1 (show 1 < 2 by decide)
    unfold dpt at h0 h1
    rw [if_neg (fun h => absurd h.2 (by decide))] at h0
    rw [if_pos ⟨h4, rfl⟩] at h1
    exact (okD_cons a b d).2 ⟨h0, h1⟩
  · refine (okD_eq t d).2 ⟨hd, ha, ?_⟩
    rw [if_neg h4]
    intro k hk
    obtain ⟨j, hj, rfl⟩ := List.getElem_of_mem hk
    have := h j hj
    unfold dpt at this
    rw [if_neg (fun h => h4 h.1)] at this
    exact this
theorem take_rest (K : List Tm) (i : Nat) (hi : i < K.length) : nodesL (K.take i) + K[i].nodes ≤ nodesL K := by
  have h1 := nodesL_app (K.take i) (K.drop i)
  rw [List.take_append_drop, List.drop_eq_getElem_cons hi] at h1
  simp only [nodesL] at h1
  omega
theorem inv_next {t : Tm} {d i : Nat} (h : ∀ (j : Nat) (hj : j < t.kids.length), j < i → okD t.kids[j] (dpt t d j)) (hi : i < t.kids.length) (hx : okD t.kids[i] (dpt t d i)) : ∀ (j : Nat) (hj : j < t.kids.length), j < i + 1 → okD t.kids[j] (dpt t d j) := by
  intro j hj hji
  rcases Nat.lt_or_ge j i with h9 | h9
  · exact h j hj h9
  · obtain rfl : j = i := by omega
    exact hx
def RwX (w : World) (t : Tm) (d : Nat) (n : Int) (e : Ending) (w' : World) : Prop := ∃ r : Int, e = .returned (.int .i64 r) ∧ Below w.heap.size w w' ∧ ((okD t d ∧ n + (t.nodes : Int) ≤ 2000 ∧ r = n + (t.nodes : Int)) ∨ (¬ (okD t d ∧ n + (t.nodes : Int) ≤ 2000) ∧ r = -1))

set_option maxRecDepth 100000 in
set_option maxHeartbeats 4000000 in
theorem rwx_any : ∀ (m : Nat) (t : Tm), t.nodes ≤ m → ∀ (v : Value) (w : World) (d : Nat) (deep n : Int), IsT w t v → deep = (d : Int) → deep ≤ 61 → 0 ≤ n → n ≤ 2000 →
    Calls Tryd.prog 49 #[v, .int .i64 deep, .int .i64 n] w fun e w' => RwX w t d n e w' := by
  intro m
  induction m with
  | zero => intro t hm; have := Tm.nodes_eq t; omega
  | succ m ih =>
    intro t hm v w d deep n hI hde hd1 hn0 hn1
    have HDE : Hid (deep = (d : Int)) := hde
    have hd0 : 0 ≤ deep := by omega
    clear hde
    have hnp := nodes_pos t
    have hI0 := hI
    obtain ⟨sl, sk, rfl, hl, hk, -, -, hS⟩ := hI.open
    obtain ⟨pl, cl, rfl⟩ := hl.shape
    obtain ⟨pk, ck, rfl, hkc, hkc2, -⟩ := hk.shape
    simp only [tmV] at *
    have HB0 : Hid (Below w.heap.size w (w.alloc (.cells #[.int .i64 t.kind, .bool t.neg, .slice pl t.limbs.length cl, .string t.str, .int .i64 t.num, .slice pk t.kids.length ck] 29))) := (Below.refl w.heap.size w).alloc (Nat.le_refl _) _
    have HU : Hid (Bt (w.alloc (.cells #[.int .i64 t.kind, .bool t.neg, .slice pl t.limbs.length cl, .string t.str, .int .i64 t.num, .slice pk t.kids.length ck] 29)) w.heap.size t.kind t.neg (.slice pl t.limbs.length cl) t.str t.num (.slice pk t.kids.length ck)) := Bt.new w t.kind t.neg (.slice pl t.limbs.length cl) t.str t.num (.slice pk t.kids.length ck) ⟨_, _, _, rfl⟩ ⟨_, _, _, rfl⟩
    have HL1 : Hid (Sl (w.alloc (.cells #[.int .i64 t.kind, .bool t.neg, .slice pl t.limbs.length cl, .string t.str, .int .i64 t.num, .slice pk t.kids.length ck] 29)) (.slice pl t.limbs.length cl) t.limbs) := hl.below HB0.out
    have HK1 : Hid (Ts (w.alloc (.cells #[.int .i64 t.kind, .bool t.neg, .slice pl t.limbs.length cl, .string t.str, .int .i64 t.num, .slice pk t.kids.length ck] 29)) (.slice pk t.kids.length ck) t.kids) := hk.under HB0.out
    have HNO := Tm.nodes_eq t
    have HS : Hid ((t.str.size : Int) ≤ 140737488355328) := hS
    clear hI hI0 hl hk hS
    by_cases h2 : 2000 < n + 1
    · go_enter Tryd.func49, Tryd.ntmps49
      go_wp2_with fail
      go_ret
      exact ⟨-1, rfl, HB0.out, .inr ⟨fun h => by omega, rfl⟩⟩
    · by_cases h6 : 60 < deep
      · go_enter Tryd.func49, Tryd.ntmps49
        go_wp2_with fail
        go_ret
        exact ⟨-1, rfl, HB0.out, .inr ⟨fun h => by have := h.1.deep; have := HDE.out; omega, rfl⟩⟩
      · go_enter Tryd.func49, Tryd.ntmps49
        go_wp2_with fail
        refine (rfx_raw _ _ _ _ _ _ _ _ _ _ _ HL1.out HS.out).mono ?_
        rintro e w2 ⟨he, b2⟩
        obtain ⟨b, hbb⟩ : ∃ b, b = aloneK t.kind t.neg t.limbs t.str t.num t.kids.length := ⟨_, rfl⟩
        rw [← hbb] at he
        subst he
        have HAL : Hid (b = t.alone) := hbb
        clear hbb
        have u2 := HU.out.under b2
        obtain ⟨a0, a1, a2, a3, a4, a5⟩ := u2.cells
        cases b with
        | false =>
          have hB2 := HB0.out.trans (b2.mono HB0.out.size)
          clear b2 u2
          go_wp2_with fail
          go_ret
          exact ⟨-1, rfl, hB2, .inr ⟨fun h => (by have := h.1.alone; rw [← HAL.out] at this; cases this), rfl⟩⟩
        | true =>
          obtain ⟨w1, hw1⟩ : ∃ w1, w.alloc (.cells #[.int .i64 t.kind, .bool t.neg, .slice pl t.limbs.length cl, .string t.str, .int .i64 t.num, .slice pk t.kids.length ck] 29) = w1 := ⟨_, rfl⟩
          rw [hw1] at HB0 HU HL1 HK1 b2
          have hst : (∃ (i : Nat) (nn : Int), i + t.kids.length = t.kids.length ∧ Value.int .i64 (n + 1) = .int .i64 nn ∧ Value.int .i64 0 = .int .i64 (i : Int) ∧ nn = n + 1 + (nodesL (t.kids.take i) : Int) ∧ nn ≤ 2000 ∧ Hid (∀ (j : Nat) (hj : j < t.kids.length), j < i → okD t.kids[j] (dpt t d j)) ∧ Below w1.heap.size w1 w2) := ⟨0, n + 1, by omega, rfl, rfl, by simp [nodesL], by omega, fun j _ hj => absurd hj (by omega), b2⟩
          clear b2 u2 hw1
          go_wp2_with fail
          go_loopg [2, 7] t.kids.length (fun q sn si wr => ∃ (i : Nat) (nn : Int), i + q = t.kids.length ∧ sn = .int .i64 nn ∧ si = .int .i64 (i : Int) ∧ nn = n + 1 + (nodesL (t.kids.take i) : Int) ∧ nn ≤ 2000 ∧ Hid (∀ (j : Nat) (hj : j < t.kids.length), j < i → okD t.kids[j] (dpt t d j)) ∧ Below w1.heap.size w1 wr)
          case atStart => exact hst
          case round =>
            clear hst a0 a1 a2 a3 a4 a5
            obtain ⟨i, nn, hiq, rfl, rfl, hnn, hn2, hok, hB⟩ := hrel
            have HNN : Hid (nn = n + 1 + (nodesL (t.kids.take i) : Int)) := hnn
            have HOK : Hid (∀ (j : Nat) (hj : j < t.kids.length), j < i → okD t.kids[j] (dpt t d j)) := hok
            have hnn0 : 0 ≤ nn := by omega
            clear hnn hok
            have ur := HU.out.under hB
            obtain ⟨a0, a1, a2, a3, a4, a5⟩ := ur.cells
            cases gk with
            | zero =>
              obtain rfl : i = t.kids.length := by omega
              have HE : Hid (nn = n + (t.nodes : Int)) := by
                show nn = _
                have := HNN.out
                rw [List.take_length] at this
                omega
              have HO2 : Hid (okD t d) := okD_all HAL.out.symm (by have := HDE.out; omega) (fun j hj => HOK.out j hj hj)
              clear HNN HOK
              go_wp2_with fail
              go_ret
              exact ⟨nn, rfl, HB0.out.trans (hB.mono HB0.out.size), .inl ⟨HO2.out, by rw [← HE.out]; exact hn2, HE.out⟩⟩
            | succ q =>
              have hik : i < t.kids.length := by omega
              have hiki : (i : Int) < (t.kids.length : Int) := by omega
              have hkn : t.kids[i].nodes ≤ m := by have := mem_nodes t.kids i hik; omega
              obtain ⟨bb, off, vv, rfl, hlt, h6', hv⟩ := HK1.out.at i hik
              obtain ⟨d0, d1, d2, d3, d4, d5, rfl, x0, x1, x2, x3, x4, x5⟩ := h6'.below hB hlt
              by_cases k4 : t.kind = 4
              · have f4 : (t.kind == 4) = true := by simp [k4]
                by_cases i1 : i = 1
                · have g1 : ((i : Int) == 1) = true := beq_iff_eq.2 (by omega)
                  have HDP : Hid (deep = ((dpt t d i : Nat) : Int)) := by unfold Hid dpt; rw [if_pos ⟨k4, i1⟩]; exact HDE.out
                  clear k4 i1
                  go_wp2_with fail
                  refine (ih _ hkn _ _ (dpt t d i) deep nn (hv.under hB) (HDP.out) (by omega) (by omega) (by omega)).mono ?_
                  rintro e w3 ⟨r, rfl, b3, hr⟩
                  have u3 := (HU.out.under hB).under b3
                  have hB3 := hB.trans (b3.mono hB.size)
                  obtain ⟨a0, a1, a2, a3, a4, a5⟩ := u3.cells
                  rcases hr with ⟨ro, r2', rn⟩ | ⟨ro, rfl⟩
                  rotate_left
                  · have HNO2 : Hid (¬ (okD t d ∧ n + (t.nodes : Int) ≤ 2000)) := fun h => ro ⟨okD_at h.1 i hik, by have h1 := HNN.out; have h2 := take_rest t.kids i hik; have h3 := h.2; omega⟩
                    clear ro
                    go_wp2_with fail
                    go_ret
                    exact ⟨-1, rfl, HB0.out.trans (hB3.mono HB0.out.size), .inr ⟨HNO2.out, rfl⟩⟩
                  · have r2 : r ≤ 2000 := by omega
                    have hr0 : ¬ (r < 0) := by omega
                    have HRO : Hid (okD t.kids[i] (dpt t d i)) := ro
                    have HRN : Hid (r = nn + (t.kids[i].nodes : Int)) := rn
                    clear ro rn r2'
                    go_wp2_with fail
                    go_roundg q
                    case measure => omega
                    case rel => exact ⟨i + 1, r, by omega, rfl, by go_num, by rw [HRN.out, HNN.out, take_nodes t.kids i hik]; omega, r2, inv_next HOK.out hik HRO.out, hB3⟩
                · have g1 : ((i : Int) == 1) = false := beq_eq_false_iff_ne.2 (by omega)
                  have HDP : Hid (deep + 1 = ((dpt t d i : Nat) : Int)) := by unfold Hid dpt; rw [if_neg (fun h => i1 h.2)]; have := HDE.out; omega
                  clear k4
                  go_wp2_with fail
                  refine (ih _ hkn _ _ (dpt t d i) (deep + 1) nn (hv.under hB) (HDP.out) (by omega) (by omega) (by omega)).mono ?_
                  rintro e w3 ⟨r, rfl, b3, hr⟩
                  have u3 := (HU.out.under hB).under b3
                  have hB3 := hB.trans (b3.mono hB.size)
                  obtain ⟨a0, a1, a2, a3, a4, a5⟩ := u3.cells
                  rcases hr with ⟨ro, r2', rn⟩ | ⟨ro, rfl⟩
                  rotate_left
                  · have HNO2 : Hid (¬ (okD t d ∧ n + (t.nodes : Int) ≤ 2000)) := fun h => ro ⟨okD_at h.1 i hik, by have h1 := HNN.out; have h2 := take_rest t.kids i hik; have h3 := h.2; omega⟩
                    clear ro
                    go_wp2_with fail
                    go_ret
                    exact ⟨-1, rfl, HB0.out.trans (hB3.mono HB0.out.size), .inr ⟨HNO2.out, rfl⟩⟩
                  · have r2 : r ≤ 2000 := by omega
                    have hr0 : ¬ (r < 0) := by omega
                    have HRO : Hid (okD t.kids[i] (dpt t d i)) := ro
                    have HRN : Hid (r = nn + (t.kids[i].nodes : Int)) := rn
                    clear ro rn r2'
                    go_wp2_with fail
                    go_roundg q
                    case measure => omega
                    case rel => exact ⟨i + 1, r, by omega, rfl, by go_num, by rw [HRN.out, HNN.out, take_nodes t.kids i hik]; omega, r2, inv_next HOK.out hik HRO.out, hB3⟩
              · have f4 : (t.kind == 4) = false := by simp [k4]
                have HDP : Hid (deep + 1 = ((dpt t d i : Nat) : Int)) := by unfold Hid dpt; rw [if_neg (fun h => k4 h.1)]; have := HDE.out; omega
                clear k4
                go_wp2_with fail
                refine (ih _ hkn _ _ (dpt t d i) (deep + 1) nn (hv.under hB) (HDP.out) (by omega) (by omega) (by omega)).mono ?_
                rintro e w3 ⟨r, rfl, b3, hr⟩
                have u3 := (HU.out.under hB).under b3
                have hB3 := hB.trans (b3.mono hB.size)
                obtain ⟨a0, a1, a2, a3, a4, a5⟩ := u3.cells
                rcases hr with ⟨ro, r2', rn⟩ | ⟨ro, rfl⟩
                rotate_left
                · have HNO2 : Hid (¬ (okD t d ∧ n + (t.nodes : Int) ≤ 2000)) := fun h => ro ⟨okD_at h.1 i hik, by have h1 := HNN.out; have h2 := take_rest t.kids i hik; have h3 := h.2; omega⟩
                  clear ro
                  go_wp2_with fail
                  go_ret
                  exact ⟨-1, rfl, HB0.out.trans (hB3.mono HB0.out.size), .inr ⟨HNO2.out, rfl⟩⟩
                · have r2 : r ≤ 2000 := by omega
                  have hr0 : ¬ (r < 0) := by omega
                  have HRO : Hid (okD t.kids[i] (dpt t d i)) := ro
                  have HRN : Hid (r = nn + (t.kids[i].nodes : Int)) := rn
                  clear ro rn r2'
                  go_wp2_with fail
                  go_roundg q
                  case measure => omega
                  case rel => exact ⟨i + 1, r, by omega, rfl, by go_num, by rw [HRN.out, HNN.out, take_nodes t.kids i hik]; omega, r2, inv_next HOK.out hik HRO.out, hB3⟩

/-- What Check answers. -/
def RcX (w : World) (t : Tm) (e : Ending) (w' : World) : Prop := e = .returned (.bool t.ok) ∧ Below w.heap.size w w'
set_option maxHeartbeats 2000000 in
theorem rcheckX_any (t : Tm) (v : Value) (w : World) (h : IsT w t v) : Calls Tryd.prog 22 #[v] w fun e w' => RcX w t e w' := by
  have hI0 := h
  obtain ⟨q, hq⟩ : ∃ q, t.ok = q := ⟨_, rfl⟩
  have HQ : Hid (t.ok = q) := hq
  unfold RcX
  rw [hq]
  clear hq
  obtain ⟨sl, sk, rfl, hl, hk, -, -, hS⟩ := h.open
  obtain ⟨pl, cl, rfl⟩ := hl.shape
  obtain ⟨pk, ck, rfl, hkc, -⟩ := hk.shape
  simp only [tmV] at *
  have HB0 : Hid (Below w.heap.size w (w.alloc (.cells #[.int .i64 t.kind, .bool t.neg, .slice pl t.limbs.length cl, .string t.str, .int .i64 t.num, .slice pk t.kids.length ck] 29))) := (Below.refl w.heap.size w).alloc (Nat.le_refl _) _
  have HI : Hid (IsT (w.alloc (.cells #[.int .i64 t.kind, .bool t.neg, .slice pl t.limbs.length cl, .string t.str, .int .i64 t.num, .slice pk t.kids.length ck] 29)) t (.agg #[.int .i64 t.kind, .bool t.neg, .slice pl t.limbs.length cl, .string t.str, .int .i64 t.num, .slice pk t.kids.length ck])) := hI0.under HB0.out
  clear h hI0 hl hk hS
  go_enter Tryd.func22, Tryd.ntmps22
  go_wp2_with fail
  refine (rwx_any t.nodes t (Nat.le_refl _) _ _ 1 1 0 HI.out (by rfl) (by omega) (by omega) (by omega)).mono ?_
  rintro e w1 ⟨r, rfl, b1, hr⟩
  have hB := HB0.out.trans (b1.mono HB0.out.size)
  clear b1
  rcases hr with ⟨ro, r2, rn⟩ | ⟨ro, rfl⟩
  rotate_left
  · have HZ : Hid (q = false) := by
      show q = false
      cases q with
      | false => rfl
      | true => have h9 := (ok_iff t).1 HQ.out; exact absurd ⟨h9.1, by omega⟩ ro
    clear ro
    go_wp2_with fail
    go_ret
    exact ⟨by rw [HZ.out]; rfl, hB⟩
  · have hr0 : (0 : Int) ≤ r := by omega
    have HZ : Hid (q = true) := by
      show q = true
      rw [← HQ.out]
      exact (ok_iff t).2 ⟨ro, by omega⟩
    clear ro rn r2
    go_wp2_with fail
    go_ret
    exact ⟨by rw [HZ.out]; rfl, hB⟩
end Go.Proofs.YtbmondbicnfcpaaDoor
