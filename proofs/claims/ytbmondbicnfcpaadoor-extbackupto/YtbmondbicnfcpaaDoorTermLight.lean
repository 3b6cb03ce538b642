/-
  relictlaw00.light, Light: what they say yes to.
-/
import Derived.Test.YtbmondbicnfcpaaDoorTermTotal
namespace Go.Proofs.YtbmondbicnfcpaaDoor
open Go.RowKit
set_option linter.unusedVariables false
set_option linter.unusedSimpArgs false

/-- A term that is light: few limbs, short texts. -/
def Tm.light : Tm → Prop := Tm.fold (fun t Ks => t.limbs.length ≤ 40 ∧ (t.str.size : Int) ≤ 500 ∧ andL Ks)
def lightL : List Tm → Prop
  | [] => True
  | t :: r => Tm.light t ∧ lightL r
theorem lightL_and : ∀ l : List Tm, andL (l.map Tm.light) = lightL l
  | [] => rfl
  | t :: r => by simp only [List.map_cons, andL, lightL, lightL_and r]
theorem Tm.light_mk (k : Int) (n : Bool) (L : List Int) (S : ByteArray) (N : Int) (K : List Tm) : Tm.light (.mk k n L S N K) = (L.length ≤ 40 ∧ (S.size : Int) ≤ 500 ∧ lightL K) := by
  rw [← lightL_and]
  unfold Tm.light
  rw [Tm.fold_mk]
theorem light_eq (t : Tm) : t.light ↔ t.limbs.length ≤ 40 ∧ (t.str.size : Int) ≤ 500 ∧ lightL t.kids := by cases t; simp [Tm.light_mk, Tm.limbs, Tm.str, Tm.kids]
theorem lightL_app : ∀ (a b : List Tm), lightL (a ++ b) ↔ lightL a ∧ lightL b
  | [], b => by simp [lightL]
  | x :: a, b => by simp [lightL, lightL_app a b, and_assoc]
theorem take_light {K : List Tm} {i : Nat} (h : lightL (K.take i)) (hi : i < K.length) (hx : K[i].light) : lightL (K.take (i + 1)) := by
  rw [List.take_succ_eq_append_getElem hi, lightL_app]
  exact ⟨h, by simp [lightL, hx]⟩
theorem take_nodesL (K : List Tm) (i : Nat) (hi : i < K.length) : ((nodesL (K.take (i + 1)) : Nat) : Int) = (nodesL (K.take i) : Int) + (K[i].nodes : Int) := by
  rw [List.take_succ_eq_append_getElem hi, nodesL_app]
  simp [nodesL]
theorem mem_nodesL (K : List Tm) (i : Nat) (hi : i < K.length) : K[i].nodes ≤ nodesL K := by
  have h1 := nodesL_app (K.take i) (K.drop i)
  rw [List.take_append_drop, List.drop_eq_getElem_cons hi] at h1
  simp only [nodesL] at h1
  omega
def LtPost (w : World) (t : Tm) (n : Int) (e : Ending) (w' : World) : Prop := ∃ r : Int, e = .returned (.int .i64 r) ∧ Below w.heap.size w w' ∧ -1 ≤ r ∧ r ≤ 1000 ∧ (r < 0 ∨ (t.light ∧ r = n - (t.nodes : Int)))
/-- The loop's state. -/
def LtSt (w1 : World) (t : Tm) (n : Int) (q : Nat) (sn si : Value) (wr : World) : Prop := ∃ (i : Nat) (nn : Int), i + q = t.kids.length ∧ sn = .int .i64 nn ∧ si = .int .i64 (i : Int) ∧ -1 ≤ nn ∧ nn ≤ 1000 ∧ (nn < 0 ∨ (nn = n - 1 - (nodesL (t.kids.take i) : Int) ∧ lightL (t.kids.take i))) ∧ Below w1.heap.size w1 wr

set_option maxRecDepth 100000 in
set_option maxHeartbeats 4000000 in
theorem light_any : ∀ (m : Nat) (t : Tm), t.nodes ≤ m → ∀ (v : Value) (w : World) (n : Int), IsT w t v → 0 ≤ n → n ≤ 1000 →
    Calls Tryd.prog 41 #[v, .int .i64 n] w fun e w' => LtPost w t n e w' := by
  intro m
  induction m with
  | zero => intro t hm; have := Tm.nodes_eq t; omega
  | succ m ih =>
    intro t hm v w n hI hn0 hn1
    obtain ⟨sl, sk, rfl, hl, hk, -, -, hS⟩ := hI.open
    obtain ⟨pl, cl, rfl⟩ := hl.shape
    obtain ⟨pk, ck, rfl, hkc, hkc2, -⟩ := hk.shape
    simp only [tmV] at *
    have HB0 : Hid (Below w.heap.size w (w.alloc (.cells #[.int .i64 t.kind, .bool t.neg, .slice pl t.limbs.length cl, .string t.str, .int .i64 t.num, .slice pk t.kids.length ck] 29))) := (Below.refl w.heap.size w).alloc (Nat.le_refl _) _
    have HU : Hid (Bt (w.alloc (.cells #[.int .i64 t.kind, .bool t.neg, .slice pl t.limbs.length cl, .string t.str, .int .i64 t.num, .slice pk t.kids.length ck] 29)) w.heap.size t.kind t.neg (.slice pl t.limbs.length cl) t.str t.num (.slice pk t.kids.length ck)) := Bt.new w t.kind t.neg (.slice pl t.limbs.length cl) t.str t.num (.slice pk t.kids.length ck) ⟨_, _, _, rfl⟩ ⟨_, _, _, rfl⟩
    have HK1 : Hid (Ts (w.alloc (.cells #[.int .i64 t.kind, .bool t.neg, .slice pl t.limbs.length cl, .string t.str, .int .i64 t.num, .slice pk t.kids.length ck] 29)) (.slice pk t.kids.length ck) t.kids) := hk.under HB0.out
    have HNO := Tm.nodes_eq t
    clear hI hl hk hS
    by_cases h4 : (40 : Int) < (t.limbs.length : Int)
    · go_enter Tryd.func41, Tryd.ntmps41
      go_wp2_with fail
      go_ret
      exact ⟨-1, rfl, HB0.out, by omega, by omega, Or.inl (by omega)⟩
    · by_cases h5 : (500 : Int) < (t.str.size : Int)
      · go_enter Tryd.func41, Tryd.ntmps41
        go_wp2_with fail
        go_ret
        exact ⟨-1, rfl, HB0.out, by omega, by omega, Or.inl (by omega)⟩
      · have HF : Hid (t.limbs.length ≤ 40 ∧ (t.str.size : Int) ≤ 500) := ⟨by omega, by omega⟩
        have HST : Hid (LtSt (w.alloc (.cells #[.int .i64 t.kind, .bool t.neg, .slice pl t.limbs.length cl, .string t.str, .int .i64 t.num, .slice pk t.kids.length ck] 29)) t n t.kids.length (.int .i64 (n - 1)) (.int .i64 0) (w.alloc (.cells #[.int .i64 t.kind, .bool t.neg, .slice pl t.limbs.length cl, .string t.str, .int .i64 t.num, .slice pk t.kids.length ck] 29))) := ⟨0, n - 1, by omega, rfl, rfl, by omega, by omega, Or.inr ⟨by simp [nodesL], by simp [lightL]⟩, Below.refl _ _⟩
        go_enter Tryd.func41, Tryd.ntmps41
        go_wp2_with fail
        have hst := HST.out
        clear HST
        go_loopg [1, 5] t.kids.length (fun q sn si wr => LtSt (w.alloc (.cells #[.int .i64 t.kind, .bool t.neg, .slice pl t.limbs.length cl, .string t.str, .int .i64 t.num, .slice pk t.kids.length ck] 29)) t n q sn si wr)
        case atStart => exact hst
        case round =>
          clear hst
          obtain ⟨i, nn, hiq, rfl, rfl, hn2, hn3, hc, hB⟩ := hrel
          obtain ⟨w1, hw1⟩ : ∃ w1, w.alloc (.cells #[.int .i64 t.kind, .bool t.neg, .slice pl t.limbs.length cl, .string t.str, .int .i64 t.num, .slice pk t.kids.length ck] 29) = w1 := ⟨_, rfl⟩
          have HW1 : Hid (w.alloc (.cells #[.int .i64 t.kind, .bool t.neg, .slice pl t.limbs.length cl, .string t.str, .int .i64 t.num, .slice pk t.kids.length ck] 29) = w1) := hw1
          rw [hw1] at HB0 HU HK1 hB
          clear hw1
          have HC : Hid (nn < 0 ∨ (nn = n - 1 - (nodesL (t.kids.take i) : Int) ∧ lightL (t.kids.take i))) := hc
          clear hc
          have ur := HU.out.under hB
          obtain ⟨a0, a1, a2, a3, a4, a5⟩ := ur.cells
          cases gk with
          | zero =>
            obtain rfl : i = t.kids.length := by omega
            have HE : Hid (nn < 0 ∨ (t.light ∧ nn = n - (t.nodes : Int))) := by
              rcases HC.out with h | ⟨h1, h2⟩
              · exact Or.inl h
              · rw [List.take_length] at h1 h2
                exact Or.inr ⟨(light_eq t).2 ⟨HF.out.1, HF.out.2, h2⟩, by omega⟩
            clear HC
            go_wp2_with fail
            go_ret
            exact ⟨nn, rfl, HB0.out.trans (hB.mono HB0.out.size), hn2, hn3, HE.out⟩
          | succ q =>
            have hik : i < t.kids.length := by omega
            have hiki : (i : Int) < (t.kids.length : Int) := by omega
            by_cases hneg : nn < 0
            · have hneg2 : ¬ (0 ≤ nn) := by omega
              go_wp2_with fail
              go_ret
              exact ⟨nn, rfl, HB0.out.trans (hB.mono HB0.out.size), hn2, hn3, Or.inl hneg⟩
            · have hneg2 : 0 ≤ nn := by omega
              have hkn : t.kids[i].nodes ≤ m := by have := mem_nodesL t.kids i hik; omega
              obtain ⟨bb, off, vv, rfl, hlt, h6', hv⟩ := HK1.out.at i hik
              obtain ⟨d0, d1, d2, d3, d4, d5, rfl, x0, x1, x2, x3, x4, x5⟩ := h6'.below hB hlt
              go_wp2_with fail
              refine (ih _ hkn _ _ nn (hv.under hB) hneg2 hn3).mono ?_
              rintro e w3 ⟨r, rfl, b3, r1, r2, hr⟩
              have hB3 := hB.trans (b3.mono hB.size)
              have HR : Hid (r < 0 ∨ (r = n - 1 - (nodesL (t.kids.take (i + 1)) : Int) ∧ lightL (t.kids.take (i + 1)))) := by
                rcases hr with h | ⟨h1, h2⟩
                · exact Or.inl h
                · rcases HC.out with h | ⟨h3, h4⟩
                  · omega
                  · exact Or.inr ⟨by rw [take_nodesL t.kids i hik]; omega, take_light h4 hik h1⟩
              clear hr b3 a0 a1 a2 a3 a4 a5 x0 x1 x2 x3 x4 x5
              go_wp2_with fail
              go_roundg q
              case measure => omega
              case rel => rw [HW1.out]; exact ⟨i + 1, r, by omega, rfl, by go_num, r1, r2, HR.out, hB3⟩

/-- What Light says yes to. -/
def LiPost (w : World) (t : Tm) (n : Int) (e : Ending) (w' : World) : Prop := ∃ b, e = .returned (.bool b) ∧ Below w.heap.size w w' ∧ (b = true → t.light ∧ (t.nodes : Int) ≤ n)
set_option maxHeartbeats 2000000 in
theorem lightB_any (t : Tm) (v : Value) (w : World) (n : Int) (h : IsT w t v) (hn0 : 0 ≤ n) (hn1 : n ≤ 1000) : Calls Tryd.prog 14 #[v, .int .i64 n] w fun e w' => LiPost w t n e w' := by
  have hI0 := h
  obtain ⟨sl, sk, rfl, hl, hk, -, -, hS⟩ := h.open
  obtain ⟨pl, cl, rfl⟩ := hl.shape
  obtain ⟨pk, ck, rfl, hkc, -⟩ := hk.shape
  simp only [tmV] at *
  have HB0 : Hid (Below w.heap.size w (w.alloc (.cells #[.int .i64 t.kind, .bool t.neg, .slice pl t.limbs.length cl, .string t.str, .int .i64 t.num, .slice pk t.kids.length ck] 29))) := (Below.refl w.heap.size w).alloc (Nat.le_refl _) _
  have HI : Hid (IsT (w.alloc (.cells #[.int .i64 t.kind, .bool t.neg, .slice pl t.limbs.length cl, .string t.str, .int .i64 t.num, .slice pk t.kids.length ck] 29)) t (.agg #[.int .i64 t.kind, .bool t.neg, .slice pl t.limbs.length cl, .string t.str, .int .i64 t.num, .slice pk t.kids.length ck])) := hI0.under HB0.out
  clear h hI0 hl hk hS
  go_enter Tryd.func14, Tryd.ntmps14
  go_wp2_with fail
  refine (light_any t.nodes t (Nat.le_refl _) _ _ n HI.out hn0 hn1).mono ?_
  rintro e w1 ⟨r, rfl, b1, r1, r2, hr⟩
  have hB := HB0.out.trans (b1.mono HB0.out.size)
  clear b1
  have HP : Hid (0 ≤ r → t.light ∧ (t.nodes : Int) ≤ n) := fun h0 => by
    rcases hr with h | ⟨h1, h2⟩
    · omega
    · exact ⟨h1, by omega⟩
  clear hr
  go_wp2_with fail
  go_ret
  exact ⟨decide (0 ≤ r), rfl, hB, fun h => HP.out (of_decide_eq_true h)⟩
end Go.Proofs.YtbmondbicnfcpaaDoor
