/-
  The law NumTexts: for every number and every text it returns true.
-/
import Derived.Test.YtmhcgdigccaogaaNumCopy
import Derived.Test.YtmhcgdigccaogaaNumRefP
import Derived.Test.YtmhcgdigccaogaaNumAwake
namespace Go.Proofs.Ytmhcgdigccaogaa
open Go.RowKit
set_option linter.unusedVariables false
attribute [local go_sem ↓] Go.wp_at_zero Go.wp_at_succ

theorem dec_zero : strOfNums (decL 0) = ⟨#[48]⟩ := by
  have e : decL 0 = [48] := by unfold decL; rw [if_neg (by decide)]; exact congrArg List.reverse (dg_small (n := 0) (by decide))
  rw [e]; rfl
theorem Good.room {n : Bool} {zs : List Int} (h : Good n zs) (hok : Ok zs) : -(B 12) < Z n (V zs) ∧ Z n (V zs) < B 12 := by
  have h1 := (room_len hok h.2.1).1 h.1
  have h0 := V_nonneg hok
  cases n <;> simp [Z] <;> omega

set_option maxRecDepth 100000 in
set_option maxHeartbeats 16000000 in
theorem numTexts_walk (na : Bool) (sa : Value) (za : List Int) (s : ByteArray) (w : World) (hsa : Sl w sa za) :
    Calls Try.prog 4 #[.agg #[.bool na, sa], .string s] w fun e w' => e = .returned (.bool true) ∧ Below w.heap.size w w' := by
  obtain ⟨pa, ca, rfl⟩ := hsa.shape
  have hB := (Below.refl w.heap.size w).alloc (Nat.le_refl _) (.cells #[.bool na, .slice pa za.length ca] 24)
  have ua := Bx.new w na pa za.length ca
  have ta := hsa.below hB
  have hlen := hsa.len
  clear hsa
  by_cases hl : za.length ≤ 20 ∧ s.size ≤ 300
  · obtain ⟨hl1, hl2⟩ := hl
    have hl1' : ¬ ((20 : Int) < (za.length : Int)) := by omega
    have hl2' : ¬ ((300 : Int) < (s.size : Int)) := by omega
    obtain ⟨x, hx⟩ : ∃ x, val na za = x := ⟨_, rfl⟩
    have qa : Nx (w.alloc (.cells #[.bool na, .slice pa za.length ca] 24)) (.agg #[.bool na, .slice pa za.length ca]) x := ⟨na, za, ⟨_, rfl, ta⟩, hx⟩
    have HX : Hid (val na za = x) := hx
    clear hx hlen
    go_enter Try.func4, Try.ntmps4
    go_wp2_with fail
    generalize w.alloc (.cells #[.bool na, .slice pa za.length ca] 24) = w0 at *
    obtain ⟨r, hr⟩ : ∃ r, parseS s = r := ⟨_, rfl⟩
    have HR : Hid (parseS s = r) := hr
    clear hr
    refine (parse_any s _).mono ?_
    rw [HR.out]
    rintro e w3 ⟨v3, rfl, i3, b3⟩
    obtain ⟨nn, pn, zn, cn, rfl, tn, gn, xn⟩ := i3.open
    have bd := (Below.refl w3.heap.size w3).alloc (Nat.le_refl _) (.cells #[.bool nn, .slice pn zn.length cn] 24)
    have un := Bx.new w3 nn pn zn.length cn
    have iN := i3.below bd
    have b33 := b3.trans (bd.mono b3.size)
    replace ua := ua.under b33
    replace ta := ta.below b33
    replace qa := qa.below b33
    replace hB := hB.trans (b33.mono hB.size)
    clear b3 bd b33 i3 tn gn xn
    go_wp2_with fail
    generalize w3.alloc (.cells #[.bool nn, .slice pn zn.length cn] 24) = w4 at *
    generalize w3.heap.size = gn at *
    refine (rparse_any s _).mono ?_
    rw [HR.out]
    rintro e w5 ⟨v5, rfl, i5, b5⟩
    obtain ⟨nm, pm, zm, cm, rfl, tm, gm, xm⟩ := i5.open
    have bd := (Below.refl w5.heap.size w5).alloc (Nat.le_refl _) (.cells #[.bool nm, .slice pm zm.length cm] 24)
    have um := Bx.new w5 nm pm zm.length cm
    have iM := i5.below bd
    have b55 := b5.trans (bd.mono b5.size)
    replace iN := iN.below b55
    replace un := un.under b55
    replace ua := ua.under b55
    replace ta := ta.below b55
    replace qa := qa.below b55
    replace hB := hB.trans (b55.mono hB.size)
    clear b5 bd b55 i5 tm gm xm
    generalize hro : r.isSome = ro at *
    clear hro
    obtain ⟨T, hT⟩ : ∃ T, strOfNums (decL x) = T := ⟨_, rfl⟩
    have HTT : Hid (strOfNums (decL x) = T) := hT
    have hTT : (T.toList == T.toList) = true := by simp
    have hne : (ro != ro) = false := by cases ro <;> rfl
    clear hT
    go_wp2_with fail
    generalize w5.alloc (.cells #[.bool nm, .slice pm zm.length cm] 24) = WW at *
    generalize w5.heap.size = gm at *
    go_region_held3 (fun w' => (w'.cell? ⟨w.heap.size, 0, none⟩ = some (.bool na) ∧ w'.cell? ⟨w.heap.size, 1, none⟩ = some (.slice pa za.length ca)) ∧ (w'.cell? ⟨gn, 0, none⟩ = some (.bool nn) ∧ w'.cell? ⟨gn, 1, none⟩ = some (.slice pn zn.length cn)) ∧ (w'.cell? ⟨gm, 0, none⟩ = some (.bool nm) ∧ w'.cell? ⟨gm, 1, none⟩ = some (.slice pm zm.length cm)))
      (first | exact ⟨ua.held ((Below.refl _ _).drew), un.held ((Below.refl _ _).drew), um.held ((Below.refl _ _).drew)⟩ | exact ⟨ua.held (by assumption), un.held (by assumption), um.held (by assumption)⟩)
      (first
        | ((have := tok3; go_at_call 26; refine (rtext_any _ x _ (qa.below hk3)).mono ?_; rintro e x4 ⟨rfl, b4⟩; have hk4 : Below WW.heap.size WW x4 := hk3.trans (b4.mono hk3.size); rw [HTT.out]; clear b4; have tok4 : Tok 4 := trivial))
        | ((have := tok2; go_at_call 25; refine (text_any _ x _ q2).mono ?_; rintro e x3 ⟨rfl, b3⟩; have hk3 : Below WW.heap.size WW x3 := hk2.trans (b3.mono hk2.size); rw [HTT.out]; clear b3; have tok3 : Tok 3 := trivial))
        | ((have := tok1; go_at_call 7; refine (ncopy_any na _ za _ (ta.below hk1) (by omega)).mono ?_; rintro e x2 ⟨v2, rfl, i2, b2⟩; have hk2 : Below WW.heap.size WW x2 := hk1.trans (b2.mono hk1.size); have q2 : Nx x2 v2 x := ⟨na, za, i2, HX.out⟩; clear i2; clear b2; have tok2 : Tok 2 := trivial))
        | ((go_at_call 12; refine (same_num _ _ (r.getD 0) _ (iN.below ((Below.refl _ _).drew)) (iM.below ((Below.refl _ _).drew))).mono ?_; rintro e x1 ⟨rfl, b1⟩; have hk1 : Below WW.heap.size WW x1 := (Below.refl _ _).drew.trans b1; clear b1; have tok1 : Tok 1 := trivial)))
    replace ua := ua.under hk4
    replace ta := ta.below hk4
    replace qa := qa.below hk4
    replace hB := hB.trans (hk4.mono hB.size)
    clear hk1 hk2 hk3 hk4 q2 un um iN iM tok1 tok2 tok3 tok4
    obtain ⟨c0, c1, -⟩ := ua.facts
    go_wp2_with fail
    by_cases hg : Good na za
    · refine (rcheck_yes na _ za _ ta hg).mono ?_
      rintro e y1 ⟨rfl, d1⟩
      replace ua := ua.under d1
      replace ta := ta.below d1
      replace qa := qa.below d1
      replace hB := hB.trans (d1.mono hB.size)
      have HZ : Hid (parseS T = some x) := by
        show parseS T = _
        have h1 := hg.room ta.ok
        have h2 : x = Z na (V za) := by rw [← HX.out, val, if_pos hg]
        rw [← HTT.out]
        exact parse_dec (by rw [h2]; exact h1.1) (by rw [h2]; exact h1.2)
      have iA : IsN y1 (.agg #[.bool na, .slice pa za.length ca]) x := ⟨na, za, ⟨_, rfl, ta⟩, hg, by rw [← HX.out, val, if_pos hg]⟩
      clear c0 c1 d1 hg ta
      obtain ⟨c0, c1, -⟩ := ua.facts
      go_wp2_with fail
      refine (text_any _ x _ qa).mono ?_
      rintro e y2 ⟨rfl, d2⟩
      rw [HTT.out]
      replace ua := ua.under d2
      replace iA := iA.below d2
      replace hB := hB.trans (d2.mono hB.size)
      clear c0 c1 d2 qa
      go_wp2_with fail
      refine (parse_any T _).mono ?_
      rw [HZ.out]
      rintro e y3 ⟨v3, rfl, i3, b3⟩
      obtain ⟨nx, px, zx, cx, rfl, tx, gx, xx⟩ := i3.open
      have bd := (Below.refl y3.heap.size y3).alloc (Nat.le_refl _) (.cells #[.bool nx, .slice px zx.length cx] 24)
      have ux := Bx.new y3 nx px zx.length cx
      have iX := i3.below bd
      have b33 := b3.trans (bd.mono b3.size)
      replace ua := ua.under b33
      replace iA := iA.below b33
      replace hB := hB.trans (b33.mono hB.size)
      clear b3 bd b33 i3 tx gx xx
      obtain ⟨c0, c1, -⟩ := ua.facts
      obtain ⟨e0, e1, -⟩ := ux.facts
      go_wp2_with fail
      refine (same_num _ _ x _ iX iA).mono ?_
      rintro e y4 ⟨rfl, d4⟩
      replace hB := hB.trans (d4.mono hB.size)
      clear c0 c1 e0 e1 d4 iX iA ua ux
      go_wp2_with fail
      refine (awake_any _).mono ?_
      rintro e y5 ⟨rfl, d5⟩
      replace hB := hB.trans (d5.mono hB.size)
      clear d5
      go_wp2_with fail
      go_ret
      exact ⟨rfl, hB⟩
    · refine (rcheck_no na _ za _ ta hg).mono ?_
      rintro e y1 ⟨rfl, d1⟩
      replace ua := ua.under d1
      replace qa := qa.below d1
      replace hB := hB.trans (d1.mono hB.size)
      have hT0 : T = ⟨#[48]⟩ := by
        rw [← HTT.out, ← HX.out, val, if_neg hg]; exact dec_zero
      clear c0 c1 d1 hg ta
      obtain ⟨c0, c1, -⟩ := ua.facts
      go_wp2_with fail
      refine (text_any _ x _ qa).mono ?_
      rintro e y2 ⟨rfl, d2⟩
      rw [HTT.out, hT0]
      clear hTT hT0 HTT
      replace hB := hB.trans (d2.mono hB.size)
      clear c0 c1 d2 qa ua
      go_wp2_with fail
      refine (awake_any _).mono ?_
      rintro e y5 ⟨rfl, d5⟩
      replace hB := hB.trans (d5.mono hB.size)
      clear d5
      go_wp2_with fail
      go_ret
      exact ⟨rfl, hB⟩
  · by_cases hl1 : za.length ≤ 20
    · have hl1' : ¬ ((20 : Int) < (za.length : Int)) := by omega
      have hl2' : (300 : Int) < (s.size : Int) := by omega
      clear hl
      go_enter Try.func4, Try.ntmps4
      go_wp2_with fail
      refine (awake_any _).mono ?_
      rintro e y5 ⟨rfl, d5⟩
      replace hB := hB.trans (d5.mono hB.size)
      clear d5
      go_wp2_with fail
      go_ret
      exact ⟨rfl, hB⟩
    · have hl1' : (20 : Int) < (za.length : Int) := by omega
      clear hl
      go_enter Try.func4, Try.ntmps4
      go_wp2_with fail
      refine (awake_any _).mono ?_
      rintro e y5 ⟨rfl, d5⟩
      replace hB := hB.trans (d5.mono hB.size)
      clear d5
      go_wp2_with fail
      go_ret
      exact ⟨rfl, hB⟩
end Go.Proofs.Ytmhcgdigccaogaa
