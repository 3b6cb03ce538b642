
/-
  limb.divide: the quotient, limb by limb; in left stays what is left.
-/
import Derived.Test.YtnfnnngdbeplaaaDoorDivMath
import Derived.Deep.LoopGhost
import Derived.WalkMore
namespace Go.Proofs.YtnfnnngdbeplaaaDoor
open Go.RowKit
set_option linter.unusedVariables false

def DividePost (w : World) (gl m n : Nat) (U v : Int) (e : Ending) (w' : World) : Prop :=
  ∃ g L Q, e = .returned (.slice (some ⟨g, 0, none⟩) (m - n) (m - n)) ∧ L.length = m ∧ Q.length = m - n ∧ Ok L ∧ Ok Q ∧ Row w' gl L ∧ Row w' g Q ∧ Grw gl w w' ∧ w.heap.size ≤ g ∧ V L + v * V Q = U ∧ V L < v

def DivRel (w : World) (gl m n : Nat) (U v : Int) (wr : World) (L Q : List Int) (k : Nat) : Prop :=
  L.length = m ∧ Q.length = m - n ∧ Ok L ∧ Ok Q ∧ Row wr gl L ∧ Row wr w.heap.size Q ∧ Grw gl w wr ∧ V L + v * V Q = U ∧ V L < v * B k ∧ (∀ j, j < k → Q.getD j 0 = 0)

set_option maxRecDepth 100000 in
set_option maxHeartbeats 4000000 in
theorem divide_any (gl m : Nat) (L0 : List Int) (vy : Value) (Y : List Int) (w : World) (hrow : Row w gl L0) (hLok : Ok L0) (hm : L0.length = m) (hy : Sl w vy Y) (hne : vy.ownBlock ≠ some gl) (h0 : 0 < Y.length) (hmn : Y.length < m) (hbig : m ≤ 1000000)
    (hY : 0 < Y.getD (Y.length - 1) 0) (hlt : V L0 < V Y * B (m - Y.length)) :
    Calls Tryd.prog 108 #[.slice (some ⟨gl, 0, none⟩) m m, vy] w fun e w' => DividePost w gl m Y.length (V L0) (V Y) e w' := by
  obtain ⟨py, cy, rfl⟩ := hy.shape
  have hgl := hrow.lt
  go_enter Tryd.func108, Tryd.ntmps108
  go_wp2_with fail
  go_step3
  go_wp2_with (first | (at_make; refine wpList_make_u32 rfl _ _ rfl _ _ (m - Y.length) rfl rfl (by omega) (by omega) (by omega) ?_; intro w1 hrow1 hbel1) | fail)
  go_step3
  go_wp2_with fail
  have hstart : DivRel w gl m Y.length (V L0) (V Y) w1 L0 (zer (m - Y.length)) (m - Y.length) := by
    refine ⟨hm, zer_len _, hLok, zer_ok _, hrow.below hbel1 hgl, hrow1, Grw.ofBelow hbel1, by rw [zer_V]; omega, hlt, fun j _ => zer_at _ _⟩
  clear hrow hLok hlt hrow1 hbel1
  go_loopg [6] (m - Y.length) (fun gk at_ wr => at_ = .int .i64 ((gk : Int) - 1) ∧ gk ≤ m - Y.length ∧ ∃ L Q, DivRel w gl m Y.length (V L0) (V Y) wr L Q gk)
  case atStart => exact ⟨by go_num, Nat.le_refl _, _, _, hstart⟩
  case round =>
    obtain ⟨rfl, hgk, L, Q, hR⟩ := hrel
    clear hstart
    cases gk with
    | zero =>
      have HR : Hid _ := hR
      clear hR
      obtain ⟨hL1, hQ1, hLok, hQok, hrL, hrQ, hgrw, hU, hlt, hz⟩ := HR.out
      have HLT : Hid (V L < V Y) := by
        have e : V L < V Y * B 0 := hlt
        simp only [B, Int.mul_one] at e
        exact e
      have HU : Hid _ := hU
      clear hU hlt hz
      go_wp2_with fail
      try rw [Exit.noGoto_ret]
      go_ret
      exact ⟨w.heap.size, L, Q, rfl, hL1, hQ1, hLok, hQok, hrL, hrQ, hgrw, Nat.le_refl _, HU.out, HLT.out⟩
    | succ k =>
      rw [show ((k + 1 : Nat) : Int) - 1 = (k : Int) by omega]
      obtain ⟨hL1, hQ1, hLok, hQok, hrL, hrQ, hgrw, hU, hlt, hz⟩ := hR
      have HU : Hid _ := hU
      have HZ : Hid _ := hz
      have hkm : k + Y.length + 1 ≤ m := by omega
      have hsy := hy.grw hgrw hne
      obtain ⟨p1, p2⟩ := piece L Y k hLok hy.ok (by omega) hlt
      have HLT : Hid _ := hlt
      clear hU hz hlt
      have hn1 : k + Y.length + 1 - k = Y.length + 1 := by omega
      have hXl : ((L.drop k).take (Y.length + 1)).length = Y.length + 1 := by simp; omega
      have hXok : Ok ((L.drop k).take (Y.length + 1)) := (hLok.drop _).take _
      have hsx := hrL.sl hLok k (Y.length + 1) (m - k) (by omega) (by omega) (by omega)
      have HC : Hid (L = L.take k ++ ((L.drop k).take (Y.length + 1) ++ L.drop (k + (Y.length + 1)))) := cut3 L k (Y.length + 1)
      have hvpos : 0 < V Y := by
        have e1 := V_one Y (Y.length - 1) (by omega)
        have e2 := Int.mul_pos (B_pos (Y.length - 1)) hY
        have e3 := V_nonneg (hy.ok.take (Y.length - 1))
        omega
      have hq0 : 0 ≤ V ((L.drop k).take (Y.length + 1)) / V Y := Int.ediv_nonneg (V_nonneg hXok) (by omega)
      have hge := guess_ge _ Y hXok hy.ok hXl h0 hY _ hq0 (Int.ediv_mul_le _ (by omega)) p1
      have hgb := gs_bd _ Y hXok hY
      obtain ⟨X, hX⟩ : ∃ X, X = (L.drop k).take (Y.length + 1) := ⟨_, rfl⟩
      rw [← hX] at hXl hXok hsx HC hq0 hge hgb p1
      have HX : Hid _ := hX
      have HP1 : Hid _ := p1
      have HP2 : Hid _ := p2
      clear hX p1 p2
      go_wp2_with fail
      refine (guess_any _ _ X Y _ hsx hsy hXl h0 hY (by omega)).mono ?_
      rintro e w2 ⟨rfl, b2⟩
      have hrL2 := hrL.below b2 hrL.lt
      have hrQ2 := hrQ.below b2 hrQ.lt
      have hgrw2 := hgrw.more b2
      clear hsx hsy hrL hrQ hgrw b2
      obtain ⟨G, hG⟩ := Int.eq_ofNat_of_zero_le hgb.1
      rw [hG] at hge hgb ⊢
      have HG : Hid (V X / V Y ≤ (G : Int)) := hge
      clear hge hG hq0
      go_wp2_with fail
      go_loopg [8] G (fun g2 q_ wy => q_ = .int .u32 (g2 : Int) ∧ (g2 : Int) ≤ 4294967295 ∧ Hid (V X / V Y ≤ (g2 : Int)) ∧ Row wy gl L ∧ Row wy w.heap.size Q ∧ Grw gl w wy)
      case atStart => exact ⟨rfl, hgb.2, HG, hrL2, hrQ2, hgrw2⟩
      case round =>
        obtain ⟨rfl, hg2, HG2, hrL3, hrQ3, hgrw3⟩ := hrel
        clear hrL2 hrQ2 hgrw2 hgb HG
        cases gk with
        | zero =>
          have hXlt : V X < V Y := by
            have e := HG2.out
            have e2 := Int.lt_ediv_add_one_mul_self (V X) hvpos
            have e3 : V X / V Y + 1 ≤ 1 := by omega
            have e4 := Int.mul_le_mul_of_nonneg_right e3 (Int.le_of_lt hvpos)
            omega
          have HR : Hid (DivRel w gl m Y.length (V L0) (V Y) wr L Q k) := by
            have hst := div_step L Y Q X k 0 (V L0) hLok hy.ok (by omega) (by omega) hXl HU.out HLT.out (HZ.out k (by omega)) (V_nonneg hXok) hXlt (by rw [HX.out]; omega)
            rw [← HC.out] at hst
            exact ⟨hL1, hQ1, hLok, hQok, hrL3, hrQ3, hgrw3, HU.out, hst.2, fun j hj => HZ.out j (by omega)⟩
          clear hXlt
          go_wp2_with fail
          go_roundg k
          case measure => omega
          case rel => exact ⟨by go_num, by omega, L, Q, HR.out⟩
        | succ q =>
          have hqb : ((q + 1 : Nat) : Int) = (q : Int) + 1 := by omega
          have hsy3 := hy.grw hgrw3 hne
          rw [hqb] at hg2 ⊢
          clear hqb
          have hrL4 := hrL3
          rw [HC.out] at hrL4
          go_wp2_with fail
          refine (take_at gl k (Y.length + 1) (m - k) (L.take k) X (L.drop (k + (Y.length + 1))) _ Y ((q : Int) + 1) _ hrL4 (by simp; omega) hXl hXok (by omega) (by omega) hsy3 hne (by omega) (by omega)).mono ?_
          rintro e w3 ⟨hbut, X', c, rfl, hXl', hXok', hrow3, hc0, hc1, hV⟩
          have hten := take_enough X X' Y _ c hXok' hXl hXl' hc0 hV
          have hrQ4 := hbut.row hrQ3 (by omega)
          have hgrw4 := hgrw3.but hbut (.inl rfl)
          by_cases hc : c = 0
          · obtain ⟨t1, t2⟩ := hten.1 hc
            have hlast : V X' < V Y := by
              have e := HG2.out
              have e2 := Int.lt_ediv_add_one_mul_self (V X) hvpos
              have e3 := Int.mul_le_mul_of_nonneg_right (show V X / V Y + 1 ≤ (q : Int) + 1 + 1 by omega) (Int.le_of_lt hvpos)
              rw [Int.add_mul ((q : Int) + 1), Int.one_mul, Int.mul_comm ((q : Int) + 1)] at e3
              omega
            have hcq := hrQ4.cell k (by omega)
            have hfq := hrQ4.frozen k
            have hkq : (k : Int) < ((m - Y.length : Nat) : Int) := by omega
            have HR : Hid (DivRel w gl m Y.length (V L0) (V Y) (w3.setCell ⟨w.heap.size, k, none⟩ (.int .u32 ((q : Int) + 1))) (L.take k ++ (X' ++ L.drop (k + (Y.length + 1)))) (Q.set k ((q : Int) + 1)) k) := by
              have hst := div_step L Y Q X' k ((q : Int) + 1) (V L0) hLok hy.ok (by omega) (by omega) (by omega) HU.out HLT.out (HZ.out k (by omega)) (V_nonneg hXok') hlast (by rw [t1, HX.out])
              have hb2 := (But.refl w.heap.size w3).setCell k (.int .u32 ((q : Int) + 1))
              refine ⟨by simp; omega, by simpa using hQ1, (hLok.take _).append (hXok'.append (hLok.drop _)), hQok.set _ (by omega) (by omega), hb2.row hrow3 (by omega), hrQ4.set k _, hgrw4.but hb2 (.inr (Nat.le_refl _)), hst.1, hst.2, fun j hj => ?_⟩
              have := HZ.out j (by omega)
              simp only [List.getD_eq_getElem?_getD] at this ⊢
              rw [List.getElem?_set_ne (by omega)]
              exact this
            subst hc
            have hcc : ((0 : Int) == 0) = true := rfl
            clear hV hten t1 t2 hlast hrow3 hrL3 hrL4 hrQ3 hgrw3 hsy3
            go_wp2_with fail
            go_roundg k
            case measure => omega
            case rel => exact ⟨by go_num, by omega, _, _, HR.out⟩
          · have hcc : (c == 0) = false := beq_eq_false_iff_ne.2 hc
            have HB := hten.2 hc
            have HG3 : Hid (V X / V Y ≤ (q : Int)) := by
              show V X / V Y ≤ (q : Int)
              have e := Int.ediv_lt_of_lt_mul hvpos (show V X < ((q : Int) + 1) * V Y by rw [Int.mul_comm]; exact HB)
              omega
            have HV : Hid _ := hV
            have hsy4 := hy.grw hgrw4 hne
            clear hV hten HB hrL3 hrL4 hrQ3 hgrw3 hsy3
            go_wp2_with fail
            refine (addT_at gl k (Y.length + 1) (m - k) (L.take k) X' (L.drop (k + (Y.length + 1))) _ Y ((q : Int) + 1) _ hrow3 (by simp; omega) (by omega) hXok' (by omega) (by omega) hsy4 hne (by omega) (by omega)).mono ?_
            rintro e w4 ⟨rfl, hbut4, X'', d, hXl'', hXok'', hrow4, hd0, hd1, hV4⟩
            have hback := back X X' X'' Y _ c d hXok hXok'' hXl' hXl'' HV.out hV4
            rw [hback, ← HC.out] at hrow4
            have hrQ5 := hbut4.row hrQ4 (by omega)
            have hgrw5 := hgrw4.but hbut4 (.inl rfl)
            clear hV4 hback hbut4 hXl'' hXok'' hrow3 hbut
            go_wp2_with fail
            go_roundg q
            case measure => omega
            case rel => exact ⟨by go_num, by omega, HG3, hrow4, hrQ5, hgrw5⟩
end Go.Proofs.YtnfnnngdbeplaaaDoor
