/-
  The law NumLaws: for every two numbers it returns true.
-/
import Derived.Test.YtnfkaddjikimdaaNumOneL
import Derived.Test.YtnfkaddjikimdaaNumLenB
namespace Go.Proofs.Ytnfkaddjikimdaa
open Go.RowKit
set_option linter.unusedVariables false

/-- The k-th operation of a region. -/
def nth : List Oper → Nat → Option Oper
  | [], _ => none
  | o :: _, 0 => some o
  | _ :: l, k + 1 => nth l k
theorem nth_eq : ∀ (l : List Oper) (k : Nat), nth l k = l[k]?
  | [], _ => rfl
  | _ :: _, 0 => rfl
  | _ :: l, k + 1 => by simp [nth, nth_eq l k]
theorem nth_ops {ops : Array Oper} {i : Nat} {o : Oper} (h : nth ops.toList i = some o) : ops[i]? = some o := by
  rw [nth_eq] at h
  simpa using h

theorem small_five {n : Bool} {zs : List Int} (hok : Ok zs) {k : Nat} (hl : zs.length ≤ k) : -(B k) < Z n (V zs) ∧ Z n (V zs) < B k := by
  have h1 := V_lt hok
  have h2 := B_mono hl
  have h3 := V_nonneg hok
  have h4 := B_pos k
  cases n <;> simp [Z] <;> omega
theorem fit_in {z : Int} (h : -(B 7) < z ∧ z < B 7) : fitS z = some z := by
  have := B_mono (show 7 ≤ 12 by omega)
  unfold fitS
  rw [if_pos (by omega)]

theorem bitS_range (op : Int) {x y : Int} (h1 : -(B 5) < x ∧ x < B 5) (h2 : -(B 5) < y ∧ y < B 5) : -(B 5) ≤ bitS op x y ∧ bitS op x y < B 5 := by
  have e5 : T 160 = B 5 := T_32 5
  have hm := B_mono (show 5 ≤ 12 by omega)
  have hb := bz_bt (fop op) 160 x y (by rw [e5]; omega) (by rw [e5]; omega) (by rw [e5]; omega) (by rw [e5]; omega)
  have e : bz (fop op) 160 x y = bitS op x y := bz_one (fop op) 384 (by rw [T384]; omega) (by rw [T384]; omega) (by rw [T384]; omega) (by rw [T384]; omega) hb
  have hr := bz_range (fop op) 160 x y
  rw [e, e5] at hr
  exact hr

theorem laws_math {x y : Int} (h1 : -(B 5) < x ∧ x < B 5) (h2 : -(B 5) < y ∧ y < B 5) :
    (opS 1 x y).getD 0 = x + y ∧ (opS 2 (x + y) y).getD 0 = x ∧ (opS 1 x (-x)).getD 0 = 0 ∧ (opS 6 x y).getD 0 = bitS 6 x y ∧ (opS 7 x y).getD 0 = bitS 7 x y ∧ (opS 1 (bitS 6 x y) (bitS 7 x y)).getD 0 = x + y ∧
    (opS 2 (bitS 7 x y) (bitS 6 x y)).getD 0 = bitS 8 x y ∧ (opS 8 x y).getD 0 = bitS 8 x y := by
  have e6 : B 7 = 4294967296 * (4294967296 * B 5) := rfl
  have hp := B_pos 5
  have hm := B_mono (show 5 ≤ 12 by omega)
  have r6 := bitS_range 6 h1 h2
  have r7 := bitS_range 7 h1 h2
  have r8 := bitS_range 8 h1 h2
  have s1 : bitS 6 x y + bitS 7 x y = x + y := and_or 384 x y (by rw [T384]; omega) (by rw [T384]; omega) (by rw [T384]; omega) (by rw [T384]; omega)
  have s2 : bitS 7 x y - bitS 6 x y = bitS 8 x y := or_and 384 x y (by rw [T384]; omega) (by rw [T384]; omega) (by rw [T384]; omega) (by rw [T384]; omega)
  rw [opS_1, opS_2, opS_1, opS_6, opS_7, opS_1, opS_2, opS_8, s1, s2]
  rw [fit_in (z := x + y) (by omega), fit_in (z := x + y - y) (by omega), fit_in (z := x + -x) (by omega), fit_in (z := bitS 6 x y) (by omega), fit_in (z := bitS 7 x y) (by omega), fit_in (z := bitS 8 x y) (by omega)]
  refine ⟨rfl, ?_, ?_, rfl, rfl, rfl, rfl, rfl⟩
  · simp only [Option.getD]; omega
  · simp only [Option.getD]; omega

theorem tdiv_bd (x y : Int) (hy : y ≠ 0) : (x.tdiv y * y).natAbs ≤ x.natAbs ∧ (x.tdiv y).natAbs ≤ x.natAbs ∧ (x.tmod y).natAbs < y.natAbs ∧ x.tdiv y * y + x.tmod y = x := by
  have e := Int.tdiv_mul_add_tmod x y
  have h1 : (x.tdiv y).natAbs = x.natAbs / y.natAbs := Int.natAbs_tdiv x y
  have h2 : (x.tmod y).natAbs = x.natAbs % y.natAbs := Int.natAbs_tmod x y
  have hy' : 0 < y.natAbs := by omega
  refine ⟨?_, ?_, ?_, e⟩
  · rw [Int.natAbs_mul, h1]; exact Nat.div_mul_le_self _ _
  · rw [h1]; exact Nat.div_le_self _ _
  · rw [h2]; exact Nat.mod_lt _ hy'

theorem laws_math2 {x y : Int} (h1 : -(B 5) < x ∧ x < B 5) (h2 : -(B 5) < y ∧ y < B 5) (hy : y ≠ 0) :
    (opS 5 x y).getD 0 = x.tmod y ∧ (opS 4 x y).getD 0 = x.tdiv y ∧ (opS 3 (x.tdiv y) y).getD 0 = x.tdiv y * y ∧ (opS 1 (x.tdiv y * y) (x.tmod y)).getD 0 = x := by
  have e6 : B 7 = 4294967296 * (4294967296 * B 5) := rfl
  have hp := B_pos 5
  obtain ⟨b1, b2, b3, b4⟩ := tdiv_bd x y hy
  rw [opS_5, opS_4, opS_3, opS_1, b4]
  unfold divS
  rw [if_neg hy, if_neg hy, fit_in (z := x.tdiv y * y) (by omega), fit_in (z := x) (by omega)]
  refine ⟨by simp, by simp, rfl, rfl⟩

theorem isLen_le {x y : Int} {m n : Nat} (hx : IsLen x m) (hy : IsLen y n) (h : x ≤ y) : m ≤ n := by
  rcases hx with ⟨h1, h2⟩ | ⟨h1, h2, h3⟩
  · omega
  · rcases hy with ⟨k1, k2⟩ | ⟨k1, k2, k3⟩
    · have := T_pos (m - 1); omega
    · rcases Nat.lt_or_ge n m with h4 | h4
      · have := T_mono (show n ≤ m - 1 by omega); omega
      · exact h4

theorem rem_sign {na nr : Bool} {za zr : List Int} {y : Int} (ga : Good na za) (gr : Good nr zr) (oa : Ok za) (or : Ok zr) (hr : Z nr (V zr) = (Z na (V za)).tmod y) (h0 : zr.length ≠ 0) : nr = na := by
  have pa := Z_pos ga oa
  have pr := Z_pos gr or
  have hv : V zr ≠ 0 := fun h => h0 (by rw [len_zero or gr.2.1 h]; rfl)
  have hv0 := V_nonneg or
  have hne : Z nr (V zr) ≠ 0 := by cases nr <;> simp [Z] <;> omega
  cases na
  · have hx := pa.2 rfl
    have : 0 ≤ (Z false (V za)).tmod y := Int.tmod_nonneg y hx
    cases nr
    · rfl
    · have := pr.1 rfl; omega
  · have hx := pa.1 rfl
    have : (Z true (V za)).tmod y ≤ 0 := by
      have e : Z true (V za) = -(-(Z true (V za))) := by omega
      rw [e, Int.neg_tmod]
      have := Int.tmod_nonneg y (show 0 ≤ -(Z true (V za)) by omega)
      omega
    cases nr
    · have := pr.2 rfl; omega
    · rfl

set_option maxHeartbeats 64000000 in
theorem numLaws_walk (na nb : Bool) (sa sb : Value) (za zb : List Int) (w : World) (hsa : Sl w sa za) (hsb : Sl w sb zb) :
    Calls Try.prog 6 #[.agg #[.bool na, sa], .agg #[.bool nb, sb]] w fun e w' => e = .returned (.bool true) ∧ Below w.heap.size w w' := by
  obtain ⟨pa, ca, rfl⟩ := hsa.shape
  obtain ⟨pb, cb, rfl⟩ := hsb.shape
  obtain ⟨hB, ua, ub⟩ := boxes2' w na nb pa pb za.length ca zb.length cb
  have ta := hsa.below hB
  have tb := hsb.below hB
  clear hsa hsb
  obtain ⟨fa, ha, -⟩ := ua.facts
  obtain ⟨fb, hb, -⟩ := ub.facts
  by_cases hla : 5 < za.length
  · have hla' : (5 : Int) < (za.length : Int) := by omega
    go_enter Try.func6, Try.ntmps6
    go_wp2_with fail
    refine (awake_any _).mono ?_
    rintro e wz ⟨rfl, bz⟩
    replace hB := hB.trans (bz.mono hB.size)
    clear fa ha fb hb ua ub ta tb bz
    go_wp2_with fail
    go_ret
    exact ⟨rfl, hB⟩
  · have hla' : ¬ ((5 : Int) < (za.length : Int)) := by omega
    by_cases hlb : 5 < zb.length
    · have hlb' : (5 : Int) < (zb.length : Int) := by omega
      go_enter Try.func6, Try.ntmps6
      go_wp2_with fail
      refine (awake_any _).mono ?_
      rintro e wz ⟨rfl, bz⟩
      replace hB := hB.trans (bz.mono hB.size)
      clear fa ha fb hb ua ub ta tb bz
      go_wp2_with fail
      go_ret
      exact ⟨rfl, hB⟩
    · have hlb' : ¬ ((5 : Int) < (zb.length : Int)) := by omega
      by_cases hga : Good na za
      · by_cases hgb : Good nb zb
        · go_enter Try.func6, Try.ntmps6
          go_wp2_with fail
          refine (rcheck_yes na _ za _ ta hga).mono ?_
          rintro e w1 ⟨rfl, b1⟩
          replace ua := ua.under b1
          replace ub := ub.under b1
          replace ta := ta.below b1
          replace tb := tb.below b1
          replace hB := hB.trans (b1.mono hB.size)
          clear fa ha fb hb b1
          obtain ⟨fa, ha, -⟩ := ua.facts
          obtain ⟨fb, hb, -⟩ := ub.facts
          go_wp2_with fail
          refine (rcheck_yes nb _ zb _ tb hgb).mono ?_
          rintro e w2 ⟨rfl, b2⟩
          replace ua := ua.under b2
          replace ub := ub.under b2
          replace ta := ta.below b2
          replace tb := tb.below b2
          replace hB := hB.trans (b2.mono hB.size)
          clear fa ha fb hb b2
          obtain ⟨fa, ha, -⟩ := ua.facts
          obtain ⟨fb, hb, -⟩ := ub.facts
          go_wp2_with fail
          obtain ⟨x, hx⟩ : ∃ x, x = Z na (V za) := ⟨_, rfl⟩
          obtain ⟨y, hy⟩ : ∃ y, y = Z nb (V zb) := ⟨_, rfl⟩
          have hs1 := small_five (n := na) ta.ok (show za.length ≤ 5 by omega)
          have hs2 := small_five (n := nb) tb.ok (show zb.length ≤ 5 by omega)
          rw [← hx] at hs1
          rw [← hy] at hs2
          have HS : Hid ((-(B 5) < x ∧ x < B 5) ∧ (-(B 5) < y ∧ y < B 5)) := ⟨hs1, hs2⟩
          obtain ⟨a6, h6⟩ : ∃ a, a = bitS 6 x y := ⟨_, rfl⟩
          obtain ⟨a7, h7⟩ : ∃ a, a = bitS 7 x y := ⟨_, rfl⟩
          obtain ⟨a8, h8⟩ : ∃ a, a = bitS 8 x y := ⟨_, rfl⟩
          have hm := laws_math hs1 hs2
          rw [← h6, ← h7, ← h8] at hm
          have HM : Hid ((opS 1 x y).getD 0 = x + y ∧ (opS 2 (x + y) y).getD 0 = x ∧ (opS 1 x (-x)).getD 0 = 0 ∧ (opS 6 x y).getD 0 = a6 ∧ (opS 7 x y).getD 0 = a7 ∧ (opS 1 a6 a7).getD 0 = x + y ∧ (opS 2 a7 a6).getD 0 = a8 ∧ (opS 8 x y).getD 0 = a8) := hm
          have ia : IsN w2 (.agg #[.bool na, .slice pa za.length ca]) x := ⟨na, za, ⟨_, rfl, ta⟩, hga, hx.symm⟩
          have ib : IsN w2 (.agg #[.bool nb, .slice pb zb.length cb]) y := ⟨nb, zb, ⟨_, rfl, tb⟩, hgb, hy.symm⟩
          have HZ : Hid (zb.length = 0 ↔ y = 0) := by
            show zb.length = 0 ↔ y = 0
            constructor
            · intro h
              rw [hy, List.eq_nil_of_length_eq_zero h]
              cases nb <;> rfl
            · intro h
              have : V zb = 0 := by rw [hy] at h; cases nb <;> simp [Z] at h <;> omega
              rw [len_zero tb.ok hgb.2.1 this]; rfl
          have HA : Hid (Good na za ∧ Ok za ∧ x = Z na (V za)) := ⟨hga, ta.ok, hx⟩
          clear hx hy hs1 hs2 h6 h7 h8 hm hga hgb ta tb fa ha fb hb
          try simp only [List.append_eq, List.cons_append, List.nil_append]
          go_region_held3 (fun w' => (w'.cell? ⟨w.heap.size, 0, none⟩ = some (.bool na) ∧ w'.cell? ⟨w.heap.size, 1, none⟩ = some (.slice pa za.length ca)) ∧ (w'.cell? ⟨w.heap.size + 1, 0, none⟩ = some (.bool nb) ∧ w'.cell? ⟨w.heap.size + 1, 1, none⟩ = some (.slice pb zb.length cb)))
            (first | exact ⟨ua.held ((Below.refl _ _).drew), ub.held ((Below.refl _ _).drew)⟩ | exact ⟨ua.held (by assumption), ub.held (by assumption)⟩)
            (first
              | ((have := tok16; go_at_call 19; refine (ncmp_any _ _ (a8) (a8) _ id3.nx id4.nx).mono ?_; rintro e x17 ⟨rfl, b17⟩; rw [sg_self]; have hk17 : Below w2.heap.size w2 x17 := hk16.trans (b17.mono hk16.size); clear b17; have tok17 : Tok 17 := trivial))
              | ((have := tok15; go_at_call 32; refine (oneL_any 8 _ _ (x) (y) _ (ia.below hk15).nx (ib.below hk15).nx).mono ?_; rw [HM.out.2.2.2.2.2.2.2]; rintro e x16 ⟨vd4, rfl, jd4, b16⟩; have id4 : IsN x16 vd4 (a8) := jd4; clear jd4; have hk16 : Below w2.heap.size w2 x16 := hk15.trans (b16.mono hk15.size); have id3 := id3.below b16; clear b16; have tok16 : Tok 16 := trivial))
              | ((have := tok14; go_at_call 32; refine (oneL_any 2 _ _ (a7) (a6) _ id1.nx id2.nx).mono ?_; rw [HM.out.2.2.2.2.2.2.1]; rintro e x15 ⟨vd3, rfl, jd3, b15⟩; have id3 : IsN x15 vd3 (a8) := jd3; clear jd3; have hk15 : Below w2.heap.size w2 x15 := hk14.trans (b15.mono hk14.size); clear b15; have tok15 : Tok 15 := trivial))
              | ((have := tok13; go_at_call 32; refine (oneL_any 6 _ _ (x) (y) _ (ia.below hk13).nx (ib.below hk13).nx).mono ?_; rw [HM.out.2.2.2.1]; rintro e x14 ⟨vd2, rfl, jd2, b14⟩; have id2 : IsN x14 vd2 (a6) := jd2; clear jd2; have hk14 : Below w2.heap.size w2 x14 := hk13.trans (b14.mono hk13.size); have id1 := id1.below b14; clear b14; have tok14 : Tok 14 := trivial))
              | ((have := tok12; go_at_call 32; refine (oneL_any 7 _ _ (x) (y) _ (ia.below hk12).nx (ib.below hk12).nx).mono ?_; rw [HM.out.2.2.2.2.1]; rintro e x13 ⟨vd1, rfl, jd1, b13⟩; have id1 : IsN x13 vd1 (a7) := jd1; clear jd1; have hk13 : Below w2.heap.size w2 x13 := hk12.trans (b13.mono hk12.size); clear b13; have tok13 : Tok 13 := trivial))
              | ((have := tok11; go_at_call 19; refine (ncmp_any _ _ (x + y) (x + y) _ ic3.nx ic4.nx).mono ?_; rintro e x12 ⟨rfl, b12⟩; rw [sg_self]; have hk12 : Below w2.heap.size w2 x12 := hk11.trans (b12.mono hk11.size); clear b12; have tok12 : Tok 12 := trivial))
              | ((have := tok10; go_at_call 32; refine (oneL_any 1 _ _ (x) (y) _ (ia.below hk10).nx (ib.below hk10).nx).mono ?_; rw [HM.out.1]; rintro e x11 ⟨vc4, rfl, jc4, b11⟩; have ic4 : IsN x11 vc4 (x + y) := jc4; clear jc4; have hk11 : Below w2.heap.size w2 x11 := hk10.trans (b11.mono hk10.size); have ic3 := ic3.below b11; clear b11; have tok11 : Tok 11 := trivial))
              | ((have := tok9; go_at_call 32; refine (oneL_any 1 _ _ (a6) (a7) _ ic1.nx ic2.nx).mono ?_; rw [HM.out.2.2.2.2.2.1]; rintro e x10 ⟨vc3, rfl, jc3, b10⟩; have ic3 : IsN x10 vc3 (x + y) := jc3; clear jc3; have hk10 : Below w2.heap.size w2 x10 := hk9.trans (b10.mono hk9.size); clear b10; have tok10 : Tok 10 := trivial))
              | ((have := tok8; go_at_call 32; refine (oneL_any 7 _ _ (x) (y) _ (ia.below hk8).nx (ib.below hk8).nx).mono ?_; rw [HM.out.2.2.2.2.1]; rintro e x9 ⟨vc2, rfl, jc2, b9⟩; have ic2 : IsN x9 vc2 (a7) := jc2; clear jc2; have hk9 : Below w2.heap.size w2 x9 := hk8.trans (b9.mono hk8.size); have ic1 := ic1.below b9; clear b9; have tok9 : Tok 9 := trivial))
              | ((have := tok7; go_at_call 32; refine (oneL_any 6 _ _ (x) (y) _ (ia.below hk7).nx (ib.below hk7).nx).mono ?_; rw [HM.out.2.2.2.1]; rintro e x8 ⟨vc1, rfl, jc1, b8⟩; have ic1 : IsN x8 vc1 (a6) := jc1; clear jc1; have hk8 : Below w2.heap.size w2 x8 := hk7.trans (b8.mono hk7.size); clear b8; have tok8 : Tok 8 := trivial))
              | ((have := tok6; go_at_call 19; refine (ncmp_any _ _ (0) (0) _ is3.nx io.nx).mono ?_; rintro e x7 ⟨rfl, b7⟩; rw [sg_self]; have hk7 : Below w2.heap.size w2 x7 := hk6.trans (b7.mono hk6.size); clear b7; have tok7 : Tok 7 := trivial))
              | ((have := tok5; go_at_call 21; refine (of_any 0 _ (by decide) (by decide)).mono ?_; rintro e x6 ⟨vo, rfl, jo, b6⟩; have io : IsN x6 vo (0) := jo; clear jo; have hk6 : Below w2.heap.size w2 x6 := hk5.trans (b6.mono hk5.size); have is3 := is3.below b6; clear b6; have tok6 : Tok 6 := trivial))
              | ((have := tok4; go_at_call 32; refine (oneL_any 1 _ _ (x) (-x) _ (ia.below hk4).nx im1.nx).mono ?_; rw [HM.out.2.2.1]; rintro e x5 ⟨vs3, rfl, js3, b5⟩; have is3 : IsN x5 vs3 (0) := js3; clear js3; have hk5 : Below w2.heap.size w2 x5 := hk4.trans (b5.mono hk4.size); clear b5; have tok5 : Tok 5 := trivial))
              | ((have := tok3; go_at_call 23; refine (neg_any _ x _ (ia.below hk3).nx).mono ?_; rintro e x4 ⟨vm1, rfl, jm1, b4⟩; have im1 : IsN x4 vm1 (-x) := jm1; clear jm1; have hk4 : Below w2.heap.size w2 x4 := hk3.trans (b4.mono hk3.size); clear b4; have tok4 : Tok 4 := trivial))
              | ((have := tok2; go_at_call 19; refine (ncmp_any _ _ (x) (x) _ is2.nx (ia.below hk2).nx).mono ?_; rintro e x3 ⟨rfl, b3⟩; rw [sg_self]; have hk3 : Below w2.heap.size w2 x3 := hk2.trans (b3.mono hk2.size); clear b3; have tok3 : Tok 3 := trivial))
              | ((have := tok1; go_at_call 32; refine (oneL_any 2 _ _ (x + y) (y) _ is1.nx (ib.below hk1).nx).mono ?_; rw [HM.out.2.1]; rintro e x2 ⟨vs2, rfl, js2, b2⟩; have is2 : IsN x2 vs2 (x) := js2; clear js2; have hk2 : Below w2.heap.size w2 x2 := hk1.trans (b2.mono hk1.size); clear b2; have tok2 : Tok 2 := trivial))
              | ((go_at_call 32; refine (oneL_any 1 _ _ (x) (y) _ (ia.below ((Below.refl _ _).drew)).nx (ib.below ((Below.refl _ _).drew)).nx).mono ?_; rw [HM.out.1]; rintro e x1 ⟨vs1, rfl, js1, b1⟩; have is1 : IsN x1 vs1 (x + y) := js1; clear js1; have hk1 : Below w2.heap.size w2 x1 := (Below.refl _ _).drew.trans b1; clear b1; have tok1 : Tok 1 := trivial)))
          replace ua := ua.under hk17
          replace ub := ub.under hk17
          replace ia := ia.below hk17
          replace ib := ib.below hk17
          replace hB := hB.trans (hk17.mono hB.size)
          clear hk1 tok1 hk2 tok2 hk3 tok3 hk4 tok4 hk5 tok5 hk6 tok6 hk7 tok7 hk8 tok8 hk9 tok9 hk10 tok10 hk11 tok11 hk12 tok12 hk13 tok13 hk14 tok14 hk15 tok15 hk16 tok16 hk17 tok17 is1 is2 im1 is3 io ic1 ic2 ic3 ic4 id1 id2 id3 id4
          generalize x17 = w3 at *
          obtain ⟨fa, ha, -⟩ := ua.facts
          obtain ⟨fb, hb, -⟩ := ub.facts
          by_cases hzb : zb.length = 0
          · have hzb' : ((zb.length : Int) == 0) = true := beq_iff_eq.2 (by omega)
            have hy0 : y = 0 := HZ.out.1 hzb
            have hd : opS 4 x y = none := by rw [opS_4]; exact if_pos hy0
            have HD : Hid _ := hd
            clear hzb hy0 hd
            go_wp2_with fail
            refine (op_any 4 _ _ x y _ ia.nx ib.nx).mono ?_
            rw [HD.out]
            rintro e w4 ⟨v4, rfl, i4, b4⟩
            obtain ⟨nd, pd, zd, cd, rfl, td, gd, xd⟩ := i4.open
            replace hB := hB.trans (b4.mono hB.size)
            have hB5 := hB.alloc hB.size (.cells #[.bool nd, .slice pd zd.length cd] 24)
            clear fa ha fb hb td gd xd i4 b4 ua ub ia ib
            go_wp2_with fail
            refine (awake_any _).mono ?_
            rintro e w6 ⟨rfl, b6⟩
            replace hB5 := hB5.trans (b6.mono hB5.size)
            go_wp2_with fail
            go_ret
            exact ⟨rfl, hB5⟩
          · have hzb' : ((zb.length : Int) == 0) = false := beq_eq_false_iff_ne.2 (by omega)
            have hy0 : y ≠ 0 := fun e => hzb (HZ.out.2 e)
            obtain ⟨q, hq⟩ : ∃ q, q = x.tdiv y := ⟨_, rfl⟩
            obtain ⟨r, hr⟩ : ∃ r, r = x.tmod y := ⟨_, rfl⟩
            have hm2 := laws_math2 HS.out.1 HS.out.2 hy0
            have hbd := (tdiv_bd x y hy0).2.2.1
            rw [← hr] at hbd
            rw [← hq, ← hr] at hm2
            have HM2 : Hid ((opS 5 x y).getD 0 = r ∧ (opS 4 x y).getD 0 = q ∧ (opS 3 q y).getD 0 = q * y ∧ (opS 1 (q * y) r).getD 0 = x) := hm2
            have HR : Hid (r = x.tmod y) := hr
            have HBD : Hid (r.natAbs < y.natAbs) := hbd
            clear hq hr hm2 hbd hzb hy0
            go_wp2_with fail
            refine (oneL_any 5 _ _ x y _ ia.nx ib.nx).mono ?_
            rw [HM2.out.1]
            rintro e w4 ⟨v4, rfl, i4, b4⟩
            obtain ⟨nr, pr, zr, cr, rfl, tr, gdr, xr⟩ := i4.open
            have hsign : zr.length ≠ 0 → nr = na := fun h => by
              obtain ⟨g1, g2, g3⟩ := HA.out
              exact rem_sign (y := y) g1 gdr g2 tr.ok (by rw [xr, HR.out, g3]) h
            have ur := Bx.new w4 nr pr zr.length cr
            have bd := (Below.refl w4.heap.size w4).alloc (Nat.le_refl _) (.cells #[.bool nr, .slice pr zr.length cr] 24)
            have ir : IsN (w4.alloc (.cells #[.bool nr, .slice pr zr.length cr] 24)) (.agg #[.bool nr, .slice pr zr.length cr]) r := i4.below bd
            have b44 := b4.trans (bd.mono b4.size)
            replace ua := ua.under b44
            replace ub := ub.under b44
            replace ia := ia.below b44
            replace ib := ib.below b44
            replace hB := hB.trans (b44.mono hB.size)
            clear fa ha fb hb tr gdr xr bd b44 b4 i4
            have HSG : Hid (zr.length ≠ 0 → nr = na) := hsign
            clear hsign
            go_wp2_with fail
            generalize w4.alloc (.cells #[.bool nr, .slice pr zr.length cr] 24) = w5 at *
            generalize w4.heap.size = gr at *
            try simp only [List.append_eq, List.cons_append, List.nil_append]
            by_cases hzr : zr.length = 0
            · have hzr' : ((zr.length : Int) == 0) = true := beq_iff_eq.2 (by omega)
              clear hzr
              refine wp_region_noPanic ?_
              refine wp_region_held_drew (S := (fun w' => (w'.cell? ⟨w.heap.size, 0, none⟩ = some (.bool na) ∧ w'.cell? ⟨w.heap.size, 1, none⟩ = some (.slice pa za.length ca)) ∧ (w'.cell? ⟨w.heap.size + 1, 0, none⟩ = some (.bool nb) ∧ w'.cell? ⟨w.heap.size + 1, 1, none⟩ = some (.slice pb zb.length cb)) ∧ (w'.cell? ⟨gr, 0, none⟩ = some (.bool nr) ∧ w'.cell? ⟨gr, 1, none⟩ = some (.slice pr zr.length cr)))) (by kernel_rfl) ?_ (fun hHeld => ?_)
              exact ⟨ua.held ((Below.refl _ _).drew), ub.held ((Below.refl _ _).drew), ur.held ((Below.refl _ _).drew)⟩
              refine wpAnyH_take (i := 0) (v := ?tv0) (nth_ops rfl) (by kernel_rfl) (by kernel_rfl) (by kernel_rfl) (fun _ _ _ h => h) (Or.inl ⟨by rfl, ?ty0⟩) (by assumption) ?tr0
              case ty0 =>
                intro wq hSq
                go_simp
                try with_reducible rfl
              try simp only [Act.put, List.setIfInBounds_toArray, List.set_cons_zero, List.set_cons_succ]
              refine wpAnyH_take (i := 1) (v := ?tv1) (nth_ops rfl) (by kernel_rfl) (by kernel_rfl) (by kernel_rfl) (fun _ _ _ h => h) (Or.inl ⟨by rfl, ?ty1⟩) (by assumption) ?tr1
              case ty1 =>
                intro wq hSq
                go_simp
                try with_reducible rfl
              try simp only [Act.put, List.setIfInBounds_toArray, List.set_cons_zero, List.set_cons_succ]
              refine wpAnyH_take (i := 2) (v := ?tv2) (nth_ops rfl) (by kernel_rfl) (by kernel_rfl) (by kernel_rfl) (fun _ _ _ h => h) (Or.inl ⟨by rfl, ?ty2⟩) (by assumption) ?tr2
              case ty2 =>
                intro wq hSq
                go_simp
                try with_reducible rfl
              try simp only [Act.put, List.setIfInBounds_toArray, List.set_cons_zero, List.set_cons_succ]
              refine wpAnyH_take (i := 3) (v := ?tv3) (nth_ops rfl) (by kernel_rfl) (by kernel_rfl) (by kernel_rfl) (fun _ _ _ h => h) (Or.inl ⟨by rfl, ?ty3⟩) (by assumption) ?tr3
              case ty3 =>
                intro wq hSq
                go_simp
                try with_reducible rfl
              try simp only [Act.put, List.setIfInBounds_toArray, List.set_cons_zero, List.set_cons_succ]
              refine wpAnyH_take (i := 4) (v := ?tv4) (nth_ops rfl) (by kernel_rfl) (by kernel_rfl) (by kernel_rfl) (fun _ _ _ h => h) (Or.inl ⟨by rfl, ?ty4⟩) (by assumption) ?tr4
              case ty4 =>
                intro wq hSq
                go_simp
                try with_reducible rfl
              try simp only [Act.put, List.setIfInBounds_toArray, List.set_cons_zero, List.set_cons_succ]
              refine wpAnyH_take (i := 6) (v := ?tv6) (nth_ops rfl) (by kernel_rfl) (by kernel_rfl) (by kernel_rfl) (fun _ _ _ h => h) (Or.inl ⟨by rfl, ?ty6⟩) (by assumption) ?tr6
              case ty6 =>
                intro wq hSq
                go_simp
                try with_reducible rfl
              try simp only [Act.put, List.setIfInBounds_toArray, List.set_cons_zero, List.set_cons_succ]
              refine wpAnyH_take (i := 8) (v := ?tv8) (nth_ops rfl) (by kernel_rfl) (by kernel_rfl) (by kernel_rfl) (fun _ _ _ h => h) (Or.inl ⟨by rfl, ?ty8⟩) (by assumption) ?tr8
              case ty8 =>
                intro wq hSq
                go_simp
                try with_reducible rfl
              try simp only [Act.put, List.setIfInBounds_toArray, List.set_cons_zero, List.set_cons_succ]
              refine wpAnyH_take (i := 10) (v := ?tv10) (nth_ops rfl) (by kernel_rfl) (by kernel_rfl) (by kernel_rfl) (fun _ _ _ h => h) (Or.inl ⟨by rfl, ?ty10⟩) (by assumption) ?tr10
              case ty10 =>
                intro wq hSq
                go_simp
                try with_reducible rfl
              try simp only [Act.put, List.setIfInBounds_toArray, List.set_cons_zero, List.set_cons_succ]
              refine wpAnyH_ready (rs := [5]) (by kernel_rfl) (by simp) ?_
              refine AllReadyH.cons (nth_ops rfl) (fun K hK => ?_) ?_
              rotate_left
              exact AllReadyH.nil
              go_simp
              ((go_at_call 32; refine (oneL_any 4 _ _ (x) (y) _ (ia.below ((Below.refl _ _).drew)).nx (ib.below ((Below.refl _ _).drew)).nx).mono ?_; rw [HM2.out.2.1]; rintro e x1 ⟨vq1, rfl, jq1, b1⟩; have iq1 : IsN x1 vq1 (q) := jq1; clear jq1; have hk1 : Below w5.heap.size w5 x1 := (Below.refl _ _).drew.trans b1; clear b1; have tok1 : Tok 1 := trivial))
              go_wp2_with fail
              refine hK.out _ _ ?_ (fun hHeld => ?_)
              exact ⟨ua.held hk1, ub.held hk1, ur.held hk1⟩
              clear hK K
              try simp only [Act.put, List.setIfInBounds_toArray, List.set_cons_zero, List.set_cons_succ]
              refine wpAnyH_ready (rs := [7]) (by kernel_rfl) (by simp) ?_
              refine AllReadyH.cons (nth_ops rfl) (fun K hK => ?_) ?_
              rotate_left
              exact AllReadyH.nil
              go_simp
              ((have := tok1; go_at_call 32; refine (oneL_any 3 _ _ (q) (y) _ iq1.nx (ib.below hk1).nx).mono ?_; rw [HM2.out.2.2.1]; rintro e x2 ⟨vq2, rfl, jq2, b2⟩; have iq2 : IsN x2 vq2 (q * y) := jq2; clear jq2; have hk2 : Below w5.heap.size w5 x2 := hk1.trans (b2.mono hk1.size); clear b2; have tok2 : Tok 2 := trivial))
              go_wp2_with fail
              refine hK.out _ _ ?_ (fun hHeld => ?_)
              exact ⟨ua.held hk2, ub.held hk2, ur.held hk2⟩
              clear hK K
              try simp only [Act.put, List.setIfInBounds_toArray, List.set_cons_zero, List.set_cons_succ]
              refine wpAnyH_ready (rs := [9]) (by kernel_rfl) (by simp) ?_
              refine AllReadyH.cons (nth_ops rfl) (fun K hK => ?_) ?_
              rotate_left
              exact AllReadyH.nil
              go_simp
              ((have := tok2; go_at_call 32; refine (oneL_any 1 _ _ (q * y) r _ iq2.nx (ir.below hk2).nx).mono ?_; rw [HM2.out.2.2.2]; rintro e x3 ⟨vq3, rfl, jq3, b3⟩; have iq3 : IsN x3 vq3 (x) := jq3; clear jq3; have hk3 : Below w5.heap.size w5 x3 := hk2.trans (b3.mono hk2.size); clear b3; have tok3 : Tok 3 := trivial))
              go_wp2_with fail
              refine hK.out _ _ ?_ (fun hHeld => ?_)
              exact ⟨ua.held hk3, ub.held hk3, ur.held hk3⟩
              clear hK K
              try simp only [Act.put, List.setIfInBounds_toArray, List.set_cons_zero, List.set_cons_succ]
              refine wpAnyH_ready (rs := [11]) (by kernel_rfl) (by simp) ?_
              refine AllReadyH.cons (nth_ops rfl) (fun K hK => ?_) ?_
              rotate_left
              exact AllReadyH.nil
              go_simp
              ((have := tok3; go_at_call 19; refine (ncmp_any _ _ (x) (x) _ iq3.nx (ia.below hk3).nx).mono ?_; rintro e x4 ⟨rfl, b4⟩; rw [sg_self]; have hk4 : Below w5.heap.size w5 x4 := hk3.trans (b4.mono hk3.size); clear b4; have tok4 : Tok 4 := trivial))
              go_wp2_with fail
              refine hK.out _ _ ?_ (fun hHeld => ?_)
              exact ⟨ua.held hk4, ub.held hk4, ur.held hk4⟩
              clear hK K
              try simp only [Act.put, List.setIfInBounds_toArray, List.set_cons_zero, List.set_cons_succ]
              refine wpAnyH_take (i := 12) (v := ?tv12) (nth_ops rfl) (by kernel_rfl) (by kernel_rfl) (by kernel_rfl) (fun _ _ _ h => h) (Or.inl ⟨by rfl, ?ty12⟩) (by assumption) ?tr12
              case ty12 =>
                intro wq hSq
                go_simp
                try with_reducible rfl
              try simp only [Act.put, List.setIfInBounds_toArray, List.set_cons_zero, List.set_cons_succ]
              refine wpAnyH_take (i := 13) (v := ?tv13) (nth_ops rfl) (by kernel_rfl) (by kernel_rfl) (by kernel_rfl) (fun _ _ _ h => h) (Or.inl ⟨by rfl, ?ty13⟩) (by assumption) ?tr13
              case ty13 =>
                intro wq hSq
                go_simp
                try with_reducible rfl
              try simp only [Act.put, List.setIfInBounds_toArray, List.set_cons_zero, List.set_cons_succ]
              refine wpAnyH_take (i := 14) (v := ?tv14) (nth_ops rfl) (by kernel_rfl) (by kernel_rfl) (by kernel_rfl) (fun _ _ _ h => h) (Or.inl ⟨by rfl, ?ty14⟩) (by assumption) ?tr14
              case ty14 =>
                intro wq hSq
                go_simp
                try with_reducible rfl
              try simp only [Act.put, List.setIfInBounds_toArray, List.set_cons_zero, List.set_cons_succ]
              refine wpAnyH_take (i := 15) (v := ?tv15) (nth_ops rfl) (by kernel_rfl) (by kernel_rfl) (by kernel_rfl) (fun _ _ _ h => h) (Or.inl ⟨by rfl, ?ty15⟩) (by assumption) ?tr15
              case ty15 =>
                intro wq hSq
                go_simp
                try with_reducible rfl
              try simp only [Act.put, List.setIfInBounds_toArray, List.set_cons_zero, List.set_cons_succ]
              refine wpAnyH_take (i := 16) (v := ?tv16) (nth_ops rfl) (by kernel_rfl) (by kernel_rfl) (by kernel_rfl) (fun _ _ _ h => h) (Or.inl ⟨by rfl, ?ty16⟩) (by assumption) ?tr16
              case ty16 =>
                intro wq hSq
                go_simp
                try with_reducible rfl
              try simp only [Act.put, List.setIfInBounds_toArray, List.set_cons_zero, List.set_cons_succ]
              refine wpAnyH_take (i := 17) (v := ?tv17) (nth_ops rfl) (by kernel_rfl) (by kernel_rfl) (by kernel_rfl) (fun _ _ _ h => h) (Or.inl ⟨by rfl, ?ty17⟩) (by assumption) ?tr17
              case ty17 =>
                intro wq hSq
                go_simp
                try with_reducible rfl
              try simp only [Act.put, List.setIfInBounds_toArray, List.set_cons_zero, List.set_cons_succ]
              refine wpAnyH_take (i := 18) (v := ?tv18) (nth_ops rfl) (by kernel_rfl) (by kernel_rfl) (by kernel_rfl) (fun _ _ _ h => h) (Or.inl ⟨by rfl, ?ty18⟩) (by assumption) ?tr18
              case ty18 =>
                intro wq hSq
                go_simp
                try with_reducible rfl
              try simp only [Act.put, List.setIfInBounds_toArray, List.set_cons_zero, List.set_cons_succ]
              refine wpAnyH_take (i := 19) (v := undef) (nth_ops rfl) (by kernel_rfl) (by kernel_rfl) (by kernel_rfl) (fun _ _ _ h => h) (Or.inr ⟨by rfl, rfl⟩) (by assumption) ?_
              try simp only [Act.put, List.setIfInBounds_toArray, List.set_cons_zero, List.set_cons_succ]
              refine wpAnyH_take (i := 20) (v := undef) (nth_ops rfl) (by kernel_rfl) (by kernel_rfl) (by kernel_rfl) (fun _ _ _ h => h) (Or.inr ⟨by rfl, rfl⟩) (by assumption) ?_
              try simp only [Act.put, List.setIfInBounds_toArray, List.set_cons_zero, List.set_cons_succ]
              refine wpAnyH_take (i := 21) (v := undef) (nth_ops rfl) (by kernel_rfl) (by kernel_rfl) (by kernel_rfl) (fun _ _ _ h => h) (Or.inr ⟨by rfl, rfl⟩) (by assumption) ?_
              try simp only [Act.put, List.setIfInBounds_toArray, List.set_cons_zero, List.set_cons_succ]
              refine wpAnyH_take (i := 22) (v := undef) (nth_ops rfl) (by kernel_rfl) (by kernel_rfl) (by kernel_rfl) (fun _ _ _ h => h) (Or.inr ⟨by rfl, rfl⟩) (by assumption) ?_
              try simp only [Act.put, List.setIfInBounds_toArray, List.set_cons_zero, List.set_cons_succ]
              refine wpAnyH_take (i := 23) (v := undef) (nth_ops rfl) (by kernel_rfl) (by kernel_rfl) (by kernel_rfl) (fun _ _ _ h => h) (Or.inr ⟨by rfl, rfl⟩) (by assumption) ?_
              try simp only [Act.put, List.setIfInBounds_toArray, List.set_cons_zero, List.set_cons_succ]
              refine wpAnyH_take (i := 24) (v := ?tv24) (nth_ops rfl) (by kernel_rfl) (by kernel_rfl) (by kernel_rfl) (fun _ _ _ h => h) (Or.inl ⟨by rfl, ?ty24⟩) (by assumption) ?tr24
              case ty24 =>
                intro wq hSq
                go_simp
                try with_reducible rfl
              try simp only [Act.put, List.setIfInBounds_toArray, List.set_cons_zero, List.set_cons_succ]
              refine wpAnyH_take (i := 25) (v := ?tv25) (nth_ops rfl) (by kernel_rfl) (by kernel_rfl) (by kernel_rfl) (fun _ _ _ h => h) (Or.inl ⟨by rfl, ?ty25⟩) (by assumption) ?tr25
              case ty25 =>
                intro wq hSq
                go_simp
                try with_reducible rfl
              try simp only [Act.put, List.setIfInBounds_toArray, List.set_cons_zero, List.set_cons_succ]
              refine wpAnyH_take (i := 26) (v := ?tv26) (nth_ops rfl) (by kernel_rfl) (by kernel_rfl) (by kernel_rfl) (fun _ _ _ h => h) (Or.inl ⟨by rfl, ?ty26⟩) (by assumption) ?tr26
              case ty26 =>
                intro wq hSq
                go_simp
                try with_reducible rfl
              try simp only [Act.put, List.setIfInBounds_toArray, List.set_cons_zero, List.set_cons_succ]
              refine wpAnyH_take (i := 27) (v := ?tv27) (nth_ops rfl) (by kernel_rfl) (by kernel_rfl) (by kernel_rfl) (fun _ _ _ h => h) (Or.inl ⟨by rfl, ?ty27⟩) (by assumption) ?tr27
              case ty27 =>
                intro wq hSq
                go_simp
                try with_reducible rfl
              try simp only [Act.put, List.setIfInBounds_toArray, List.set_cons_zero, List.set_cons_succ]
              refine wpAnyH_take (i := 29) (v := ?tv29) (nth_ops rfl) (by kernel_rfl) (by kernel_rfl) (by kernel_rfl) (fun _ _ _ h => h) (Or.inl ⟨by rfl, ?ty29⟩) (by assumption) ?tr29
              case ty29 =>
                intro wq hSq
                go_simp
                try with_reducible rfl
              try simp only [Act.put, List.setIfInBounds_toArray, List.set_cons_zero, List.set_cons_succ]
              refine wpAnyH_ready (rs := [28]) (by kernel_rfl) (by simp) ?_
              refine AllReadyH.cons (nth_ops rfl) (fun K hK => ?_) ?_
              rotate_left
              exact AllReadyH.nil
              go_simp
              ((have := tok4; go_at_call 25; refine (bits_any _ r _ (ir.below hk4).nx).mono ?_; rintro e x5 ⟨mr, rfl, lmr, mmr, b5⟩; have hk5 : Below w5.heap.size w5 x5 := hk4.trans (b5.mono hk4.size); clear b5; have tok5 : Tok 5 := trivial))
              go_wp2_with fail
              refine hK.out _ _ ?_ (fun hHeld => ?_)
              exact ⟨ua.held hk5, ub.held hk5, ur.held hk5⟩
              clear hK K
              try simp only [Act.put, List.setIfInBounds_toArray, List.set_cons_zero, List.set_cons_succ]
              refine wpAnyH_ready (rs := [30]) (by kernel_rfl) (by simp) ?_
              refine AllReadyH.cons (nth_ops rfl) (fun K hK => ?_) ?_
              rotate_left
              exact AllReadyH.nil
              go_simp
              ((have := tok5; go_at_call 25; refine (bits_any _ y _ (ib.below hk5).nx).mono ?_; rintro e x6 ⟨my, rfl, lmy, mmy, b6⟩; have hle : (mr : Int) ≤ (my : Int) := Int.ofNat_le.2 (isLen_le lmr lmy (by have := HBD.out; omega)); have hk6 : Below w5.heap.size w5 x6 := hk5.trans (b6.mono hk5.size); clear b6; have tok6 : Tok 6 := trivial))
              go_wp2_with fail
              refine hK.out _ _ ?_ (fun hHeld => ?_)
              exact ⟨ua.held hk6, ub.held hk6, ur.held hk6⟩
              clear hK K
              try simp only [Act.put, List.setIfInBounds_toArray, List.set_cons_zero, List.set_cons_succ]
              refine wpAnyH_take (i := 31) (v := ?tv31) (nth_ops rfl) (by kernel_rfl) (by kernel_rfl) (by kernel_rfl) (fun _ _ _ h => h) (Or.inl ⟨by rfl, ?ty31⟩) (by assumption) ?tr31
              case ty31 =>
                intro wq hSq
                go_simp
                try with_reducible rfl
              try simp only [Act.put, List.setIfInBounds_toArray, List.set_cons_zero, List.set_cons_succ]
              refine wpAnyH_take (i := 32) (v := ?tv32) (nth_ops rfl) (by kernel_rfl) (by kernel_rfl) (by kernel_rfl) (fun _ _ _ h => h) (Or.inl ⟨by rfl, ?ty32⟩) (by assumption) ?tr32
              case ty32 =>
                intro wq hSq
                go_simp
                try with_reducible rfl
              try simp only [Act.put, List.setIfInBounds_toArray, List.set_cons_zero, List.set_cons_succ]
              refine wpAnyH_take (i := 33) (v := ?tv33) (nth_ops rfl) (by kernel_rfl) (by kernel_rfl) (by kernel_rfl) (fun _ _ _ h => h) (Or.inl ⟨by rfl, ?ty33⟩) (by assumption) ?tr33
              case ty33 =>
                intro wq hSq
                go_simp
                try with_reducible rfl
              try simp only [Act.put, List.setIfInBounds_toArray, List.set_cons_zero, List.set_cons_succ]
              refine wpAnyH_ready (rs := [34]) (by kernel_rfl) (by simp) ?_
              refine AllReadyH.cons (nth_ops rfl) (fun K hK => ?_) ?_
              rotate_left
              exact AllReadyH.nil
              go_simp
              ((have := tok6; go_at_call 10; refine (awake_any _).mono ?_; rintro e x7 ⟨rfl, b7⟩; have hk7 : Below w5.heap.size w5 x7 := hk6.trans (b7.mono hk6.size); clear b7; have tok7 : Tok 7 := trivial))
              go_wp2_with fail
              refine hK.out _ _ ?_ (fun hHeld => ?_)
              exact ⟨ua.held hk7, ub.held hk7, ur.held hk7⟩
              clear hK K
              try simp only [Act.put, List.setIfInBounds_toArray, List.set_cons_zero, List.set_cons_succ]
              refine wpAnyH_take (i := 35) (v := ?tv35) (nth_ops rfl) (by kernel_rfl) (by kernel_rfl) (by kernel_rfl) (fun _ _ _ h => h) (Or.inl ⟨by rfl, ?ty35⟩) (by assumption) ?tr35
              case ty35 =>
                intro wq hSq
                go_simp
                try with_reducible rfl
              try simp only [Act.put, List.setIfInBounds_toArray, List.set_cons_zero, List.set_cons_succ]
              refine wpAnyH_take (i := 36) (v := ?tv36) (nth_ops rfl) (by kernel_rfl) (by kernel_rfl) (by kernel_rfl) (fun _ _ _ h => h) (Or.inl ⟨by rfl, ?ty36⟩) (by assumption) ?tr36
              case ty36 =>
                intro wq hSq
                go_simp
                try with_reducible rfl
              try simp only [Act.put, List.setIfInBounds_toArray, List.set_cons_zero, List.set_cons_succ]
              refine wpAnyH_done (by kernel_rfl) ?_ _
              refine NoPanic.normal ?_
              go_wp2_with fail
              go_ret
              exact ⟨rfl, hB.trans (hk7.mono hB.size)⟩
            · have hzr' : ((zr.length : Int) == 0) = false := beq_eq_false_iff_ne.2 (by omega)
              obtain rfl := HSG.out hzr
              have hnn : (nr == nr) = true := by simp
              clear hzr
              go_region_held3 (fun w' => (w'.cell? ⟨w.heap.size, 0, none⟩ = some (.bool nr) ∧ w'.cell? ⟨w.heap.size, 1, none⟩ = some (.slice pa za.length ca)) ∧ (w'.cell? ⟨w.heap.size + 1, 0, none⟩ = some (.bool nb) ∧ w'.cell? ⟨w.heap.size + 1, 1, none⟩ = some (.slice pb zb.length cb)) ∧ (w'.cell? ⟨gr, 0, none⟩ = some (.bool nr) ∧ w'.cell? ⟨gr, 1, none⟩ = some (.slice pr zr.length cr)))
                (first | exact ⟨ua.held ((Below.refl _ _).drew), ub.held ((Below.refl _ _).drew), ur.held ((Below.refl _ _).drew)⟩ | exact ⟨ua.held (by assumption), ub.held (by assumption), ur.held (by assumption)⟩)
                (first
                  | ((have := tok6; go_at_call 10; refine (awake_any _).mono ?_; rintro e x7 ⟨rfl, b7⟩; have hk7 : Below w5.heap.size w5 x7 := hk6.trans (b7.mono hk6.size); clear b7; have tok7 : Tok 7 := trivial))
                  | ((have := tok5; go_at_call 25; refine (bits_any _ y _ (ib.below hk5).nx).mono ?_; rintro e x6 ⟨my, rfl, lmy, mmy, b6⟩; have hle : (mr : Int) ≤ (my : Int) := Int.ofNat_le.2 (isLen_le lmr lmy (by have := HBD.out; omega)); have hk6 : Below w5.heap.size w5 x6 := hk5.trans (b6.mono hk5.size); clear b6; have tok6 : Tok 6 := trivial))
                  | ((have := tok4; go_at_call 25; refine (bits_any _ r _ (ir.below hk4).nx).mono ?_; rintro e x5 ⟨mr, rfl, lmr, mmr, b5⟩; have hk5 : Below w5.heap.size w5 x5 := hk4.trans (b5.mono hk4.size); clear b5; have tok5 : Tok 5 := trivial))
                  | ((have := tok3; go_at_call 19; refine (ncmp_any _ _ (x) (x) _ iq3.nx (ia.below hk3).nx).mono ?_; rintro e x4 ⟨rfl, b4⟩; rw [sg_self]; have hk4 : Below w5.heap.size w5 x4 := hk3.trans (b4.mono hk3.size); clear b4; have tok4 : Tok 4 := trivial))
                  | ((have := tok2; go_at_call 32; refine (oneL_any 1 _ _ (q * y) r _ iq2.nx (ir.below hk2).nx).mono ?_; rw [HM2.out.2.2.2]; rintro e x3 ⟨vq3, rfl, jq3, b3⟩; have iq3 : IsN x3 vq3 (x) := jq3; clear jq3; have hk3 : Below w5.heap.size w5 x3 := hk2.trans (b3.mono hk2.size); clear b3; have tok3 : Tok 3 := trivial))
                  | ((have := tok1; go_at_call 32; refine (oneL_any 3 _ _ (q) (y) _ iq1.nx (ib.below hk1).nx).mono ?_; rw [HM2.out.2.2.1]; rintro e x2 ⟨vq2, rfl, jq2, b2⟩; have iq2 : IsN x2 vq2 (q * y) := jq2; clear jq2; have hk2 : Below w5.heap.size w5 x2 := hk1.trans (b2.mono hk1.size); clear b2; have tok2 : Tok 2 := trivial))
                  | ((go_at_call 32; refine (oneL_any 4 _ _ (x) (y) _ (ia.below ((Below.refl _ _).drew)).nx (ib.below ((Below.refl _ _).drew)).nx).mono ?_; rw [HM2.out.2.1]; rintro e x1 ⟨vq1, rfl, jq1, b1⟩; have iq1 : IsN x1 vq1 (q) := jq1; clear jq1; have hk1 : Below w5.heap.size w5 x1 := (Below.refl _ _).drew.trans b1; clear b1; have tok1 : Tok 1 := trivial)))
              go_wp2_with fail
              go_ret
              exact ⟨rfl, hB.trans (hk7.mono hB.size)⟩
        · go_enter Try.func6, Try.ntmps6
          go_wp2_with fail
          refine (rcheck_yes na _ za _ ta hga).mono ?_
          rintro e w1 ⟨rfl, b1⟩
          replace ua := ua.under b1
          replace ub := ub.under b1
          replace ta := ta.below b1
          replace tb := tb.below b1
          replace hB := hB.trans (b1.mono hB.size)
          clear fa ha fb hb b1
          obtain ⟨fa, ha, -⟩ := ua.facts
          obtain ⟨fb, hb, -⟩ := ub.facts
          go_wp2_with fail
          refine (rcheck_no nb _ zb _ tb hgb).mono ?_
          rintro e w2 ⟨rfl, b2⟩
          replace ua := ua.under b2
          replace ub := ub.under b2
          replace ta := ta.below b2
          replace tb := tb.below b2
          replace hB := hB.trans (b2.mono hB.size)
          clear fa ha fb hb b2
          obtain ⟨fa, ha, -⟩ := ua.facts
          obtain ⟨fb, hb, -⟩ := ub.facts
          go_wp2_with fail
          refine (awake_any _).mono ?_
          rintro e wz ⟨rfl, bz⟩
          replace hB := hB.trans (bz.mono hB.size)
          clear fa ha fb hb ua ub ta tb bz
          go_wp2_with fail
          go_ret
          exact ⟨rfl, hB⟩
      · go_enter Try.func6, Try.ntmps6
        go_wp2_with fail
        refine (rcheck_no na _ za _ ta hga).mono ?_
        rintro e w1 ⟨rfl, b1⟩
        replace ua := ua.under b1
        replace ub := ub.under b1
        replace ta := ta.below b1
        replace tb := tb.below b1
        replace hB := hB.trans (b1.mono hB.size)
        clear fa ha fb hb b1
        obtain ⟨fa, ha, -⟩ := ua.facts
        obtain ⟨fb, hb, -⟩ := ub.facts
        go_wp2_with fail
        refine (awake_any _).mono ?_
        rintro e wz ⟨rfl, bz⟩
        replace hB := hB.trans (bz.mono hB.size)
        clear fa ha fb hb ua ub ta tb bz
        go_wp2_with fail
        go_ret
        exact ⟨rfl, hB⟩
end Go.Proofs.Ytnfkaddjikimdaa
