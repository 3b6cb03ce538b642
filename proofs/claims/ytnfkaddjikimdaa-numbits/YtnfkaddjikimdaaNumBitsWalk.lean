/-
  The law NumBits: for every number it returns true.
-/
import Derived.Test.YtnfkaddjikimdaaNumOneB
namespace Go.Proofs.Ytnfkaddjikimdaa
open Go.RowKit
set_option linter.unusedVariables false

set_option maxHeartbeats 16000000 in
theorem numBits_walk (n : Bool) (s : Value) (zs : List Int) (w : World) (hs : Sl w s zs) :
    Calls Try.prog 8 #[.agg #[.bool n, s]] w fun e w' => e = .returned (.bool true) ∧ Below w.heap.size w w' := by
  obtain ⟨p, c, rfl⟩ := hs.shape
  have hB := (Below.refl w.heap.size w).alloc (Nat.le_refl _) (.cells #[.bool n, .slice p zs.length c] 24)
  have ua := Bx.new w n p zs.length c
  have ta := hs.below hB
  obtain ⟨f0, h0, -⟩ := ua.facts
  by_cases hg : Good n zs
  · by_cases hl : 12 ≤ zs.length
    · have hl' : (12 : Int) ≤ (zs.length : Int) := by omega
      go_enter Try.func8, Try.ntmps8
      go_wp2_with fail
      refine (rcheck_yes n _ zs _ ta hg).mono ?_
      rintro e w1 ⟨rfl, b1⟩
      obtain ⟨f1, h1, -⟩ := (ua.under b1).facts
      replace hB := hB.trans (b1.mono hB.size)
      clear f0 h0
      go_wp2_with fail
      refine (awake_any _).mono ?_
      rintro e w2 ⟨rfl, b2⟩
      go_wp2_with fail
      go_ret
      exact ⟨rfl, hB.trans (b2.mono hB.size)⟩
    · have hl' : (zs.length : Int) < 12 := by omega
      obtain ⟨x, hx⟩ : ∃ x, x = Z n (V zs) := ⟨_, rfl⟩
      have hsm := small_of (n := n) hs.ok (show zs.length ≤ 11 by omega)
      rw [← hx] at hsm
      obtain ⟨M1, M2, M3, M4, M5, M6, M7, M8, M9⟩ := bits_math hsm.1 hsm.2
      have ia : IsN (w.alloc (.cells #[.bool n, .slice p zs.length c] 24)) (.agg #[.bool n, .slice p zs.length c]) x := ⟨n, zs, ⟨_, rfl, ta⟩, hg, hx.symm⟩
      have HM : Hid ((opS 2 (-1) x).getD 0 = -1 - x ∧ (opS 6 x (-1)).getD 0 = x ∧ (opS 6 x 0).getD 0 = 0 ∧ (opS 7 x 0).getD 0 = x ∧ (opS 7 x (-1)).getD 0 = -1 ∧ (opS 8 x x).getD 0 = 0 ∧ (opS 8 x (-1)).getD 0 = -1 - x ∧ (opS 8 x 0).getD 0 = x ∧ (opS 6 x (-1 - x)).getD 0 = 0) := ⟨M1, M2, M3, M4, M5, M6, M7, M8, M9⟩
      clear M1 M2 M3 M4 M5 M6 M7 M8 M9 hsm hx hl
      go_enter Try.func8, Try.ntmps8
      go_wp2_with fail
      refine (rcheck_yes n _ zs _ ta hg).mono ?_
      rintro e w1 ⟨rfl, b1⟩
      replace ua := ua.under b1
      replace ia := ia.below b1
      replace hB := hB.trans (b1.mono hB.size)
      clear f0 h0 ta hs hg b1
      obtain ⟨fa, ha, -⟩ := ua.facts
      go_wp2_with fail
      clear fa ha
      refine (of_any 0 _ (by decide) (by decide)).mono ?_
      rintro e y1 ⟨vo, rfl, jo, b1⟩
      have io : IsN y1 vo (0) := jo
      clear jo
      replace ua := ua.under b1
      replace ia := ia.below b1
      replace hB := hB.trans (b1.mono hB.size)
      clear b1
      go_wp2_with fail
      refine (of_any (-1) _ (by decide) (by decide)).mono ?_
      rintro e y2 ⟨vm, rfl, jm, b2⟩
      have im : IsN y2 vm (-1) := jm
      clear jm
      replace ua := ua.under b2
      replace ia := ia.below b2
      replace io := io.below b2
      replace hB := hB.trans (b2.mono hB.size)
      clear b2
      obtain ⟨no, po, zo, co, rfl, to, go, xo⟩ := io.open
      obtain ⟨nm, pm, zm, cm, rfl, tm, gm, xm⟩ := im.open
      clear to go xo tm gm xm
      have uo0 := Bx.new y2 no po zo.length co
      have bo := (Below.refl y2.heap.size y2).alloc (Nat.le_refl _) (.cells #[.bool no, .slice po zo.length co] 24)
      have um := Bx.new (y2.alloc (.cells #[.bool no, .slice po zo.length co] 24)) nm pm zm.length cm
      have bm := (Below.refl _ (y2.alloc (.cells #[.bool no, .slice po zo.length co] 24))).alloc (Nat.le_refl _) (.cells #[.bool nm, .slice pm zm.length cm] 24)
      have uo := uo0.under bm
      rw [World.size_alloc] at um
      have bq := bo.trans (bm.mono bo.size)
      clear uo0 bo bm
      replace ua := ua.under bq
      replace ia := ia.below bq
      replace io := io.below bq
      replace im := im.below bq
      replace hB := hB.trans (bq.mono hB.size)
      clear bq
      obtain ⟨fa, ha, -⟩ := ua.facts
      obtain ⟨fo, ho, -⟩ := uo.facts
      obtain ⟨fm, hm, -⟩ := um.facts
      go_wp2_with fail
      clear fa ha
      clear fo ho
      clear fm hm
      generalize (y2.alloc (.cells #[.bool no, .slice po zo.length co] 24)).alloc (.cells #[.bool nm, .slice pm zm.length cm] 24) = y3 at *
      generalize y2.heap.size = go at *
      refine (oneB_any 2 _ _ (-1) x _ im.nx ia.nx).mono ?_
      rw [HM.out.1]
      rintro e y4 ⟨vt, rfl, jt, b4⟩
      have it : IsN y4 vt (-1 - x) := jt
      clear jt
      replace ua := ua.under b4
      replace ia := ia.below b4
      replace uo := uo.under b4
      replace io := io.below b4
      replace um := um.under b4
      replace im := im.below b4
      replace hB := hB.trans (b4.mono hB.size)
      clear b4
      obtain ⟨nt, pt, zt, ct, rfl, tt, gt, xt⟩ := it.open
      clear tt gt xt
      have ut := Bx.new y4 nt pt zt.length ct
      have bt' := (Below.refl y4.heap.size y4).alloc (Nat.le_refl _) (.cells #[.bool nt, .slice pt zt.length ct] 24)
      replace ua := ua.under bt'
      replace ia := ia.below bt'
      replace uo := uo.under bt'
      replace io := io.below bt'
      replace um := um.under bt'
      replace im := im.below bt'
      replace it := it.below bt'
      replace hB := hB.trans (bt'.mono hB.size)
      clear bt'
      obtain ⟨fa, ha, -⟩ := ua.facts
      obtain ⟨fo, ho, -⟩ := uo.facts
      obtain ⟨fm, hm, -⟩ := um.facts
      obtain ⟨ft, ht, -⟩ := ut.facts
      go_wp2_with fail
      clear fa ha
      clear fo ho
      clear fm hm
      clear ft ht
      generalize y4.alloc (.cells #[.bool nt, .slice pt zt.length ct] 24) = y5 at *
      generalize y4.heap.size = gt at *
      simp only [List.append_eq, List.cons_append, List.nil_append]
      go_region_held3 (fun w' => (w'.cell? ⟨w.heap.size, 0, none⟩ = some (.bool n) ∧ w'.cell? ⟨w.heap.size, 1, none⟩ = some (.slice p zs.length c)) ∧ (w'.cell? ⟨go, 0, none⟩ = some (.bool no) ∧ w'.cell? ⟨go, 1, none⟩ = some (.slice po zo.length co)) ∧ (w'.cell? ⟨go + 1, 0, none⟩ = some (.bool nm) ∧ w'.cell? ⟨go + 1, 1, none⟩ = some (.slice pm zm.length cm)) ∧ (w'.cell? ⟨gt, 0, none⟩ = some (.bool nt) ∧ w'.cell? ⟨gt, 1, none⟩ = some (.slice pt zt.length ct)))
        (first | exact ⟨ua.held ((Below.refl _ _).drew), uo.held ((Below.refl _ _).drew), um.held ((Below.refl _ _).drew), ut.held ((Below.refl _ _).drew)⟩ | exact ⟨ua.held (by assumption), uo.held (by assumption), um.held (by assumption), ut.held (by assumption)⟩)
        (first
          | ((have := tok16; go_at_call 10; refine (awake_any _).mono ?_; rintro e x17 ⟨rfl, b17⟩; have hk17 : Below y5.heap.size y5 x17 := hk16.trans (b17.mono hk16.size); clear b17; have tok17 : Tok 17 := trivial))
          | ((have := tok15; go_at_call 16; refine (same_num _ _ (0) _ ik7 (io.below hk15)).mono ?_; rintro e x16 ⟨rfl, b16⟩; have hk16 : Below y5.heap.size y5 x16 := hk15.trans (b16.mono hk15.size); clear b16; have tok16 : Tok 16 := trivial))
          | ((have := tok14; go_at_call 33; refine (oneB_any 6 _ _ (x) (-1 - x) _ (ia.below hk14).nx (it.below hk14).nx).mono ?_; rw [HM.out.2.2.2.2.2.2.2.2]; rintro e x15 ⟨vk7, rfl, jk7, b15⟩; have ik7 : IsN x15 vk7 (0) := jk7; clear jk7; have hk15 : Below y5.heap.size y5 x15 := hk14.trans (b15.mono hk14.size); clear b15; have tok15 : Tok 15 := trivial))
          | ((have := tok13; go_at_call 16; refine (same_num _ _ (x) _ ik6 (ia.below hk13)).mono ?_; rintro e x14 ⟨rfl, b14⟩; have hk14 : Below y5.heap.size y5 x14 := hk13.trans (b14.mono hk13.size); clear b14; have tok14 : Tok 14 := trivial))
          | ((have := tok12; go_at_call 33; refine (oneB_any 8 _ _ (x) (0) _ (ia.below hk12).nx (io.below hk12).nx).mono ?_; rw [HM.out.2.2.2.2.2.2.2.1]; rintro e x13 ⟨vk6, rfl, jk6, b13⟩; have ik6 : IsN x13 vk6 (x) := jk6; clear jk6; have hk13 : Below y5.heap.size y5 x13 := hk12.trans (b13.mono hk12.size); clear b13; have tok13 : Tok 13 := trivial))
          | ((have := tok11; go_at_call 16; refine (same_num _ _ (-1 - x) _ ik5 (it.below hk11)).mono ?_; rintro e x12 ⟨rfl, b12⟩; have hk12 : Below y5.heap.size y5 x12 := hk11.trans (b12.mono hk11.size); clear b12; have tok12 : Tok 12 := trivial))
          | ((have := tok10; go_at_call 33; refine (oneB_any 8 _ _ (x) (-1) _ (ia.below hk10).nx (im.below hk10).nx).mono ?_; rw [HM.out.2.2.2.2.2.2.1]; rintro e x11 ⟨vk5, rfl, jk5, b11⟩; have ik5 : IsN x11 vk5 (-1 - x) := jk5; clear jk5; have hk11 : Below y5.heap.size y5 x11 := hk10.trans (b11.mono hk10.size); clear b11; have tok11 : Tok 11 := trivial))
          | ((have := tok9; go_at_call 16; refine (same_num _ _ (0) _ ik4 (io.below hk9)).mono ?_; rintro e x10 ⟨rfl, b10⟩; have hk10 : Below y5.heap.size y5 x10 := hk9.trans (b10.mono hk9.size); clear b10; have tok10 : Tok 10 := trivial))
          | ((have := tok8; go_at_call 33; refine (oneB_any 8 _ _ (x) (x) _ (ia.below hk8).nx (ia.below hk8).nx).mono ?_; rw [HM.out.2.2.2.2.2.1]; rintro e x9 ⟨vk4, rfl, jk4, b9⟩; have ik4 : IsN x9 vk4 (0) := jk4; clear jk4; have hk9 : Below y5.heap.size y5 x9 := hk8.trans (b9.mono hk8.size); clear b9; have tok9 : Tok 9 := trivial))
          | ((have := tok7; go_at_call 16; refine (same_num _ _ (-1) _ ik3 (im.below hk7)).mono ?_; rintro e x8 ⟨rfl, b8⟩; have hk8 : Below y5.heap.size y5 x8 := hk7.trans (b8.mono hk7.size); clear b8; have tok8 : Tok 8 := trivial))
          | ((have := tok6; go_at_call 33; refine (oneB_any 7 _ _ (x) (-1) _ (ia.below hk6).nx (im.below hk6).nx).mono ?_; rw [HM.out.2.2.2.2.1]; rintro e x7 ⟨vk3, rfl, jk3, b7⟩; have ik3 : IsN x7 vk3 (-1) := jk3; clear jk3; have hk7 : Below y5.heap.size y5 x7 := hk6.trans (b7.mono hk6.size); clear b7; have tok7 : Tok 7 := trivial))
          | ((have := tok5; go_at_call 16; refine (same_num _ _ (x) _ ik2 (ia.below hk5)).mono ?_; rintro e x6 ⟨rfl, b6⟩; have hk6 : Below y5.heap.size y5 x6 := hk5.trans (b6.mono hk5.size); clear b6; have tok6 : Tok 6 := trivial))
          | ((have := tok4; go_at_call 33; refine (oneB_any 7 _ _ (x) (0) _ (ia.below hk4).nx (io.below hk4).nx).mono ?_; rw [HM.out.2.2.2.1]; rintro e x5 ⟨vk2, rfl, jk2, b5⟩; have ik2 : IsN x5 vk2 (x) := jk2; clear jk2; have hk5 : Below y5.heap.size y5 x5 := hk4.trans (b5.mono hk4.size); clear b5; have tok5 : Tok 5 := trivial))
          | ((have := tok3; go_at_call 16; refine (same_num _ _ (0) _ ik1 (io.below hk3)).mono ?_; rintro e x4 ⟨rfl, b4⟩; have hk4 : Below y5.heap.size y5 x4 := hk3.trans (b4.mono hk3.size); clear b4; have tok4 : Tok 4 := trivial))
          | ((have := tok2; go_at_call 33; refine (oneB_any 6 _ _ (x) (0) _ (ia.below hk2).nx (io.below hk2).nx).mono ?_; rw [HM.out.2.2.1]; rintro e x3 ⟨vk1, rfl, jk1, b3⟩; have ik1 : IsN x3 vk1 (0) := jk1; clear jk1; have hk3 : Below y5.heap.size y5 x3 := hk2.trans (b3.mono hk2.size); clear b3; have tok3 : Tok 3 := trivial))
          | ((have := tok1; go_at_call 16; refine (same_num _ _ (x) _ ik0 (ia.below hk1)).mono ?_; rintro e x2 ⟨rfl, b2⟩; have hk2 : Below y5.heap.size y5 x2 := hk1.trans (b2.mono hk1.size); clear b2; have tok2 : Tok 2 := trivial))
          | ((go_at_call 33; refine (oneB_any 6 _ _ (x) (-1) _ (ia.below ((Below.refl _ _).drew)).nx (im.below ((Below.refl _ _).drew)).nx).mono ?_; rw [HM.out.2.1]; rintro e x1 ⟨vk0, rfl, jk0, b1⟩; have ik0 : IsN x1 vk0 (x) := jk0; clear jk0; have hk1 : Below y5.heap.size y5 x1 := (Below.refl _ _).drew.trans b1; clear b1; have tok1 : Tok 1 := trivial)))
      go_wp2_with fail
      go_ret
      exact ⟨rfl, hB.trans (hk17.mono hB.size)⟩
  · go_enter Try.func8, Try.ntmps8
    go_wp2_with fail
    refine (rcheck_no n _ zs _ ta hg).mono ?_
    rintro e w1 ⟨rfl, b1⟩
    replace hB := hB.trans (b1.mono hB.size)
    clear f0 h0
    go_wp2_with fail
    refine (awake_any _).mono ?_
    rintro e w2 ⟨rfl, b2⟩
    go_wp2_with fail
    go_ret
    exact ⟨rfl, hB.trans (b2.mono hB.size)⟩
end Go.Proofs.Ytnfkaddjikimdaa
