
/-
  relictref03.walk, Check: what they say yes to.
-/
import Derived.Test.YtfcdocgjmgpmkaaDoorTermRFields
import Derived.Test.YtfcdocgjmgpmkaaDoorTermTotal
namespace Go.Proofs.YtfcdocgjmgpmkaaDoor
open Go.RowKit
set_option linter.unusedVariables false
set_option linter.unusedSimpArgs false

/-- A term that may be, as far as it is told here. -/
def Tm.rOk : Tm → Prop := Tm.fold (fun t Ks => fOk t.kind t.neg t.limbs Ks.length ∧ andL Ks)
def rOkL : List Tm → Prop
  | [] => True
  | t :: r => Tm.rOk t ∧ rOkL r
theorem rOkL_and : ∀ l : List Tm, andL (l.map Tm.rOk) = rOkL l
  | [] => rfl
  | t :: r => by simp only [List.map_cons, andL, rOkL, rOkL_and r]
theorem Tm.rOk_mk (k : Int) (n : Bool) (L : List Int) (S : ByteArray) (N : Int) (K : List Tm) : Tm.rOk (.mk k n L S N K) = (fOk k n L K.length ∧ rOkL K) := by
  rw [← rOkL_and]
  unfold Tm.rOk
  rw [Tm.fold_mk]
  simp only [List.length_map]
theorem rOk_eq (t : Tm) : t.rOk ↔ fOk t.kind t.neg t.limbs t.kids.length ∧ rOkL t.kids := by cases t; simp [Tm.rOk_mk, Tm.kind, Tm.neg, Tm.limbs, Tm.kids]
theorem rOkL_app : ∀ (a b : List Tm), rOkL (a ++ b) ↔ rOkL a ∧ rOkL b
  | [], b => by simp [rOkL]
  | x :: a, b => by simp [rOkL, rOkL_app a b, and_assoc]
theorem take_rOk {K : List Tm} {i : Nat} (h : rOkL (K.take i)) (hi : i < K.length) (hx : K[i].rOk) : rOkL (K.take (i + 1)) := by
  rw [List.take_succ_eq_append_getElem hi, rOkL_app]
  exact ⟨h, by simp [rOkL, hx]⟩
theorem take_nodes (K : List Tm) (i : Nat) (hi : i < K.length) : ((nodesL (K.take (i + 1)) : Nat) : Int) = (nodesL (K.take i) : Int) + (K[i].nodes : Int) := by
  rw [List.take_succ_eq_append_getElem hi, nodesL_app]
  simp [nodesL]
theorem mem_nodes (K : List Tm) (i : Nat) (hi : i < K.length) : K[i].nodes ≤ nodesL K := by
  have h1 := nodesL_app (K.take i) (K.drop i)
  rw [List.take_append_drop, List.drop_eq_getElem_cons hi] at h1
  simp only [nodesL] at h1
  omega
def RwPost (w : World) (t : Tm) (n : Int) (e : Ending) (w' : World) : Prop := ∃ r : Int, e = .returned (.int .i64 r) ∧ Below w.heap.size w w' ∧ (r = -1 ∨ (t.rOk ∧ r = n + (t.nodes : Int) ∧ r ≤ 2000))

set_option maxRecDepth 100000 in
set_option maxHeartbeats 4000000 in
theorem rwalk_any : ∀ (m : Nat) (t : Tm), t.nodes ≤ m → ∀ (v : Value) (w : World) (deep n : Int), IsT w t v → 0 ≤ deep → deep ≤ 61 → 0 ≤ n → n ≤ 2000 →
    Calls Tryd.prog 20 #[v, .int .i64 deep, .int .i64 n] w fun e w' => RwPost w t n e w' := by
  intro m
  induction m with
  | zero => intro t hm; have := Tm.nodes_eq t; omega
  | succ m ih =>
    intro t hm v w deep n hI hd0 hd1 hn0 hn1
    have hI0 := hI
    obtain ⟨sl, sk, rfl, hl, hk, -, -, hS⟩ := hI.open
    obtain ⟨pl, cl, rfl⟩ := hl.shape
    obtain ⟨pk, ck, rfl, hkc, hkc2, -⟩ := hk.shape
    simp only [tmV] at *
    have HB0 : Hid (Below w.heap.size w (w.alloc (.cells #[.int .i64 t.kind, .bool t.neg, .slice pl t.limbs.length cl, .string t.str, .int .i64 t.num, .slice pk t.kids.length ck] 27))) := (Below.refl w.heap.size w).alloc (Nat.le_refl _) _
    have HU : Hid (Bt (w.alloc (.cells #[.int .i64 t.kind, .bool t.neg, .slice pl t.limbs.length cl, .string t.str, .int .i64 t.num, .slice pk t.kids.length ck] 27)) w.heap.size t.kind t.neg (.slice pl t.limbs.length cl) t.str t.num (.slice pk t.kids.length ck)) := Bt.new w t.kind t.neg (.slice pl t.limbs.length cl) t.str t.num (.slice pk t.kids.length ck) ⟨_, _, _, rfl⟩ ⟨_, _, _, rfl⟩
    have HL1 : Hid (Sl (w.alloc (.cells #[.int .i64 t.kind, .bool t.neg, .slice pl t.limbs.length cl, .string t.str, .int .i64 t.num, .slice pk t.kids.length ck] 27)) (.slice pl t.limbs.length cl) t.limbs) := hl.below HB0.out
    have HK1 : Hid (Ts (w.alloc (.cells #[.int .i64 t.kind, .bool t.neg, .slice pl t.limbs.length cl, .string t.str, .int .i64 t.num, .slice pk t.kids.length ck] 27)) (.slice pk t.kids.length ck) t.kids) := hk.under HB0.out
    have HNO := Tm.nodes_eq t
    have HS : Hid ((t.str.size : Int) ≤ 140737488355328) := hS
    clear hI hI0 hl hk hS
    by_cases h2 : 2000 < n + 1
    · go_enter Tryd.func20, Tryd.ntmps20
      go_wp2_with fail
      go_ret
      exact ⟨-1, rfl, HB0.out, Or.inl rfl⟩
    · by_cases h6 : 60 < deep
      · go_enter Tryd.func20, Tryd.ntmps20
        go_wp2_with fail
        go_ret
        exact ⟨-1, rfl, HB0.out, Or.inl rfl⟩
      · go_enter Tryd.func20, Tryd.ntmps20
        go_wp2_with fail
        refine (fields_raw _ _ _ _ _ _ _ _ _ _ _ HL1.out HS.out).mono ?_
        rintro e w2 ⟨b, rfl, b2, hf⟩
        have u2 := HU.out.under b2
        obtain ⟨a0, a1, a2, a3, a4, a5⟩ := u2.cells
        cases b with
        | false =>
          have hB2 := HB0.out.trans (b2.mono HB0.out.size)
          clear b2 u2
          go_wp2_with fail
          go_ret
          exact ⟨-1, rfl, hB2, Or.inl rfl⟩
        | true =>
          have HF : Hid (fOk t.kind t.neg t.limbs t.kids.length) := hf rfl
          clear hf
          obtain ⟨w1, hw1⟩ : ∃ w1, w.alloc (.cells #[.int .i64 t.kind, .bool t.neg, .slice pl t.limbs.length cl, .string t.str, .int .i64 t.num, .slice pk t.kids.length ck] 27) = w1 := ⟨_, rfl⟩
          rw [hw1] at HB0 HU HL1 HK1 b2
          have hst : (∃ (i : Nat) (nn : Int), i + t.kids.length = t.kids.length ∧ Value.int .i64 (n + 1) = .int .i64 nn ∧ Value.int .i64 0 = .int .i64 (i : Int) ∧ nn = n + 1 + (nodesL (t.kids.take i) : Int) ∧ nn ≤ 2000 ∧ rOkL (t.kids.take i) ∧ Below w1.heap.size w1 w2) := ⟨0, n + 1, by omega, rfl, rfl, by simp [nodesL], by omega, by simp [rOkL], b2⟩
          clear b2 u2 hw1
          go_wp2_with fail
          go_loopg [2, 7] t.kids.length (fun q sn si wr => ∃ (i : Nat) (nn : Int), i + q = t.kids.length ∧ sn = .int .i64 nn ∧ si = .int .i64 (i : Int) ∧ nn = n + 1 + (nodesL (t.kids.take i) : Int) ∧ nn ≤ 2000 ∧ rOkL (t.kids.take i) ∧ Below w1.heap.size w1 wr)
          case atStart => exact hst
          case round =>
            clear hst a0 a1 a2 a3 a4 a5
            obtain ⟨i, nn, hiq, rfl, rfl, hnn, hn2, hok, hB⟩ := hrel
            have HNN : Hid (nn = n + 1 + (nodesL (t.kids.take i) : Int)) := hnn
            have HOK : Hid (rOkL (t.kids.take i)) := hok
            have hnn0 : 0 ≤ nn := by omega
            clear hnn hok
            have ur := HU.out.under hB
            obtain ⟨a0, a1, a2, a3, a4, a5⟩ := ur.cells
            cases gk with
            | zero =>
              obtain rfl : i = t.kids.length := by omega
              have HE : Hid (nn = n + (t.nodes : Int)) := by
                show nn = _
                have := HNN.out
                rw [List.take_length] at this
                omega
              have HO2 : Hid (t.rOk) := by
                have := HOK.out
                rw [List.take_length] at this
                exact (rOk_eq t).2 ⟨HF.out, this⟩
              clear HNN HOK
              go_wp2_with fail
              go_ret
              exact ⟨nn, rfl, HB0.out.trans (hB.mono HB0.out.size), Or.inr ⟨HO2.out, HE.out, hn2⟩⟩
            | succ q =>
              have hik : i < t.kids.length := by omega
              have hiki : (i : Int) < (t.kids.length : Int) := by omega
              have hkn : t.kids[i].nodes ≤ m := by have := mem_nodes t.kids i hik; omega
              obtain ⟨bb, off, vv, rfl, hlt, h6', hv⟩ := HK1.out.at i hik
              obtain ⟨d0, d1, d2, d3, d4, d5, rfl, x0, x1, x2, x3, x4, x5⟩ := h6'.below hB hlt
              by_cases k4 : t.kind = 4
              · have f4 : (t.kind == 4) = true := by simp [k4]
                by_cases i1 : i = 1
                · have g1 : ((i : Int) == 1) = true := beq_iff_eq.2 (by omega)
                  have HI1 : Hid (i = 1) := i1
                  clear k4 i1
                  go_wp2_with fail
                  refine (ih _ hkn _ _ deep nn (hv.under hB) (by omega) (by omega) (by omega) (by omega)).mono ?_
                  rintro e w3 ⟨r, rfl, b3, hr⟩
                  have u3 := (HU.out.under hB).under b3
                  have hB3 := hB.trans (b3.mono hB.size)
                  obtain ⟨a0, a1, a2, a3, a4, a5⟩ := u3.cells
                  rcases hr with rfl | ⟨ro, rn, r2⟩
                  · go_wp2_with fail
                    go_ret
                    exact ⟨-1, rfl, HB0.out.trans (hB3.mono HB0.out.size), Or.inl rfl⟩
                  · have hr0 : ¬ (r < 0) := by omega
                    have HRO : Hid _ := ro
                    have HRN : Hid (r = nn + (t.kids[i].nodes : Int)) := rn
                    clear ro rn
                    go_wp2_with fail
                    go_roundg q
                    case measure => omega
                    case rel => exact ⟨i + 1, r, by omega, rfl, by go_num, by rw [HRN.out, HNN.out, take_nodes t.kids i hik]; omega, r2, take_rOk HOK.out hik HRO.out, hB3⟩
                · have g1 : ((i : Int) == 1) = false := beq_eq_false_iff_ne.2 (by omega)
                  clear k4
                  go_wp2_with fail
                  refine (ih _ hkn _ _ (deep + 1) nn (hv.under hB) (by omega) (by omega) (by omega) (by omega)).mono ?_
                  rintro e w3 ⟨r, rfl, b3, hr⟩
                  have u3 := (HU.out.under hB).under b3
                  have hB3 := hB.trans (b3.mono hB.size)
                  obtain ⟨a0, a1, a2, a3, a4, a5⟩ := u3.cells
                  rcases hr with rfl | ⟨ro, rn, r2⟩
                  · go_wp2_with fail
                    go_ret
                    exact ⟨-1, rfl, HB0.out.trans (hB3.mono HB0.out.size), Or.inl rfl⟩
                  · have hr0 : ¬ (r < 0) := by omega
                    have HRO : Hid _ := ro
                    have HRN : Hid (r = nn + (t.kids[i].nodes : Int)) := rn
                    clear ro rn
                    go_wp2_with fail
                    go_roundg q
                    case measure => omega
                    case rel => exact ⟨i + 1, r, by omega, rfl, by go_num, by rw [HRN.out, HNN.out, take_nodes t.kids i hik]; omega, r2, take_rOk HOK.out hik HRO.out, hB3⟩
              · have f4 : (t.kind == 4) = false := by simp [k4]
                clear k4
                go_wp2_with fail
                refine (ih _ hkn _ _ (deep + 1) nn (hv.under hB) (by omega) (by omega) (by omega) (by omega)).mono ?_
                rintro e w3 ⟨r, rfl, b3, hr⟩
                have u3 := (HU.out.under hB).under b3
                have hB3 := hB.trans (b3.mono hB.size)
                obtain ⟨a0, a1, a2, a3, a4, a5⟩ := u3.cells
                rcases hr with rfl | ⟨ro, rn, r2⟩
                · go_wp2_with fail
                  go_ret
                  exact ⟨-1, rfl, HB0.out.trans (hB3.mono HB0.out.size), Or.inl rfl⟩
                · have hr0 : ¬ (r < 0) := by omega
                  have HRO : Hid _ := ro
                  have HRN : Hid (r = nn + (t.kids[i].nodes : Int)) := rn
                  clear ro rn
                  go_wp2_with fail
                  go_roundg q
                  case measure => omega
                  case rel => exact ⟨i + 1, r, by omega, rfl, by go_num, by rw [HRN.out, HNN.out, take_nodes t.kids i hik]; omega, r2, take_rOk HOK.out hik HRO.out, hB3⟩

/-- What Check says yes to. -/
def RcPost (w : World) (t : Tm) (e : Ending) (w' : World) : Prop := ∃ b, e = .returned (.bool b) ∧ Below w.heap.size w w' ∧ (b = true → t.rOk ∧ t.nodes ≤ 2000)
set_option maxHeartbeats 2000000 in
theorem rcheckT_any (t : Tm) (v : Value) (w : World) (h : IsT w t v) : Calls Tryd.prog 8 #[v] w fun e w' => RcPost w t e w' := by
  have hI0 := h
  obtain ⟨sl, sk, rfl, hl, hk, -, -, hS⟩ := h.open
  obtain ⟨pl, cl, rfl⟩ := hl.shape
  obtain ⟨pk, ck, rfl, hkc, -⟩ := hk.shape
  simp only [tmV] at *
  have HB0 : Hid (Below w.heap.size w (w.alloc (.cells #[.int .i64 t.kind, .bool t.neg, .slice pl t.limbs.length cl, .string t.str, .int .i64 t.num, .slice pk t.kids.length ck] 27))) := (Below.refl w.heap.size w).alloc (Nat.le_refl _) _
  have HI : Hid (IsT (w.alloc (.cells #[.int .i64 t.kind, .bool t.neg, .slice pl t.limbs.length cl, .string t.str, .int .i64 t.num, .slice pk t.kids.length ck] 27)) t (.agg #[.int .i64 t.kind, .bool t.neg, .slice pl t.limbs.length cl, .string t.str, .int .i64 t.num, .slice pk t.kids.length ck])) := hI0.under HB0.out
  clear h hI0 hl hk hS
  go_enter Tryd.func8, Tryd.ntmps8
  go_wp2_with fail
  refine (rwalk_any t.nodes t (Nat.le_refl _) _ _ 1 0 HI.out (by omega) (by omega) (by omega) (by omega)).mono ?_
  rintro e w1 ⟨r, rfl, b1, hr⟩
  have hB := HB0.out.trans (b1.mono HB0.out.size)
  clear b1
  rcases hr with rfl | ⟨ro, rn, r2⟩
  · go_wp2_with fail
    go_ret
    exact ⟨false, rfl, hB, fun h => by cases h⟩
  · have hr0 : (0 : Int) ≤ r := by omega
    have HP : Hid (t.rOk ∧ t.nodes ≤ 2000) := ⟨ro, by omega⟩
    clear ro rn r2
    go_wp2_with fail
    go_ret
    exact ⟨true, rfl, hB, fun _ => HP.out⟩
end Go.Proofs.YtfcdocgjmgpmkaaDoor
