/-
  relictlaw05.IffBack.
-/
import Derived.Test.YtifofcodmgglkaaIffL
namespace Go.Proofs.Ytifofcodmgglkaa
open Go.RowKit Go.Maps
set_option linter.unusedVariables false
set_option linter.unusedSimpArgs false

theorem sizS_len : ∀ l : List Ck, l.length ≤ sizS l
  | [] => Nat.le_refl _
  | c :: r => by
    have := sizS_len r
    simp only [sizS, ckL, List.length_cons]
    omega

set_option maxHeartbeats 8000000 in
theorem iffBack_walk (v0 : Value) (b : List UInt8) (v1 : Value) (l : List Ck) (w : World) (h0 : By w v0 b) (h1 : Ch w v1 l) :
    Calls Try.prog 4 #[v0, v1] w fun e w' => e = .returned (.bool true) ∧ Below w.heap.size w w' := by
  obtain ⟨a0, cap0, rfl, hc0, hm0, hn0⟩ := h0.shape
  have HBz : Hid (Below w.heap.size w w) := Below.refl _ _
  by_cases h7 : (70000 : Int) < (b.length : Int)
  · go_enter Try.func4, Try.ntmps4
    go_wp2_with fail
    refine (awake_any _).mono ?_
    rintro e wa ⟨rfl, ba⟩
    have HA : Hid (Below w.heap.size w wa) := HBz.out.trans (ba.mono HBz.out.size)
    clear ba
    go_wp2_with fail
    go_ret
    exact ⟨rfl, HA.out⟩
  · have h7' : b.length ≤ 70000 := by omega
    go_enter Try.func4, Try.ntmps4
    go_wp2_with fail
    refine (few_any _ l _ h1).mono ?_
    rintro e w1 ⟨q, rfl, hq, rfl⟩
    cases q
    · clear hq
      go_wp2_with fail
      refine (awake_any _).mono ?_
      rintro e wa ⟨rfl, ba⟩
      have HA : Hid (Below w.heap.size w wa) := HBz.out.trans (ba.mono HBz.out.size)
      clear ba
      go_wp2_with fail
      go_ret
      exact ⟨rfl, HA.out⟩
    · have hl12 := hq rfl
      have hl13 : (l.length : Int) ≤ 100000000000000 := by omega
      clear hq HBz
      go_wp2_with fail
      refine (make_any _ l _ h1 hl13).mono ?_
      rintro e w2 ⟨v2, rfl, o2, b2⟩
      have HB2 : Hid _ := b2
      clear b2
      by_cases e1 : (makS l).2 = 0
      · have hp := par_mak e1
        rw [e1]
        have HE1 : Hid _ := e1
        clear e1
        have y2 := o2.by
        go_wp2_with fail
        refine (parse_any _ _ _ y2).mono ?_
        rw [hp]
        rintro e w3 ⟨v3, rfl, o3, k3, b3⟩
        have HB3 : Hid (Below w.heap.size w w3) := HB2.out.trans (b3.mono HB2.out.size)
        have c3 := o3.ch k3
        clear o2 y2 b3 o3 k3 hp
        go_wp2_with fail
        refine (same_any _ _ l _ c3 (h1.under HB3.out)).mono ?_
        rintro e w4 ⟨rfl, b4⟩
        have HBz : Hid (Below w.heap.size w w4) := HB3.out.trans (b4.mono HB3.out.size)
        clear b4 HB3 HB2 c3 HE1
        go_wp2_with fail
        refine (bytes_any _ b _ (h0.under HBz.out) (by omega)).mono ?_
        rintro e w5 ⟨v5, rfl, o5, b5⟩
        have HB5 : Hid (Below w.heap.size w w5) := HBz.out.trans (b5.mono HBz.out.size)
        clear b5 HBz
        go_wp2_with fail
        refine (parse_any _ b _ o5.by).mono ?_
        rintro e w6 ⟨v6, rfl, o6, k6, b6⟩
        have HB6 : Hid (Below w.heap.size w w6) := HB5.out.trans (b6.mono HB5.out.size)
        clear b6 HB5 o5
        by_cases e2 : (parS b).2 = 0
        · have hq : parS b = ((parS b).1, 0) := Prod.ext rfl e2
          have hmk := mak_par hq
          rw [e2]
          have HE2 : Hid _ := e2
          clear e2 hq
          obtain ⟨x, hx⟩ : ∃ x, x = (parS b).1 := ⟨_, rfl⟩
          rw [← hx] at hmk o6 k6
          clear hx HE2
          have hl6 : (x.length : Int) ≤ 100000000000000 := by
            obtain ⟨r1, r2, -⟩ := mak_ok (l := x) (by rw [hmk])
            have := sizS_len x
            omega
          have c6 := o6.ch k6
          go_wp2_with fail
          refine (make_any _ x _ c6 hl6).mono ?_
          unfold MkPost
          rw [hmk]
          rintro e w7 ⟨v7, rfl, o7, b7⟩
          have HBz : Hid (Below w.heap.size w w7) := HB6.out.trans (b7.mono HB6.out.size)
          clear b7 HB6 o6 k6 c6
          have y7 := o7.by
          obtain ⟨a7, c7, rfl, -⟩ := y7.shape
          have t7 := y7.text
          have t0 := (h0.under HBz.out).text
          obtain ⟨T, hT⟩ : ∃ T : ByteArray, T = ⟨b.toArray⟩ := ⟨_, rfl⟩
          rw [← hT] at t7 t0
          clear hT
          have e3 : (T.toList != T.toList) = false := by simp
          clear o7 y7 hl6 hmk
          go_wp2_with fail
          refine (awake_any _).mono ?_
          rintro e wa ⟨rfl, ba⟩
          have HA : Hid (Below w.heap.size w wa) := HBz.out.trans (ba.mono HBz.out.size)
          clear ba
          go_wp2_with fail
          go_ret
          exact ⟨rfl, HA.out⟩
        · have HE2 : Hid _ := e2
          have ne2 := e2
          clear e2
          obtain ⟨er, her⟩ : ∃ er, er = (parS b).2 := ⟨_, rfl⟩
          rw [← her] at ne2 ⊢
          have HBz := HB6
          clear her HE2 HB6 o6 k6
          go_wp2_with fail
          refine (awake_any _).mono ?_
          rintro e wa ⟨rfl, ba⟩
          have HA : Hid (Below w.heap.size w wa) := HBz.out.trans (ba.mono HBz.out.size)
          clear ba
          go_wp2_with fail
          go_ret
          exact ⟨rfl, HA.out⟩
      · have ne1 := e1
        clear e1
        obtain ⟨er1, her1⟩ : ∃ er, er = (makS l).2 := ⟨_, rfl⟩
        rw [← her1] at ne1 ⊢
        have HBz := HB2
        clear her1 HB2 o2
        go_wp2_with fail
        refine (bytes_any _ b _ (h0.under HBz.out) (by omega)).mono ?_
        rintro e w5 ⟨v5, rfl, o5, b5⟩
        have HB5 : Hid (Below w.heap.size w w5) := HBz.out.trans (b5.mono HBz.out.size)
        clear b5 HBz
        go_wp2_with fail
        refine (parse_any _ b _ o5.by).mono ?_
        rintro e w6 ⟨v6, rfl, o6, k6, b6⟩
        have HB6 : Hid (Below w.heap.size w w6) := HB5.out.trans (b6.mono HB5.out.size)
        clear b6 HB5 o5
        by_cases e2 : (parS b).2 = 0
        · have hq : parS b = ((parS b).1, 0) := Prod.ext rfl e2
          have hmk := mak_par hq
          rw [e2]
          have HE2 : Hid _ := e2
          clear e2 hq
          obtain ⟨x, hx⟩ : ∃ x, x = (parS b).1 := ⟨_, rfl⟩
          rw [← hx] at hmk o6 k6
          clear hx HE2
          have hl6 : (x.length : Int) ≤ 100000000000000 := by
            obtain ⟨r1, r2, -⟩ := mak_ok (l := x) (by rw [hmk])
            have := sizS_len x
            omega
          have c6 := o6.ch k6
          go_wp2_with fail
          refine (make_any _ x _ c6 hl6).mono ?_
          unfold MkPost
          rw [hmk]
          rintro e w7 ⟨v7, rfl, o7, b7⟩
          have HBz : Hid (Below w.heap.size w w7) := HB6.out.trans (b7.mono HB6.out.size)
          clear b7 HB6 o6 k6 c6
          have y7 := o7.by
          obtain ⟨a7, c7, rfl, -⟩ := y7.shape
          have t7 := y7.text
          have t0 := (h0.under HBz.out).text
          obtain ⟨T, hT⟩ : ∃ T : ByteArray, T = ⟨b.toArray⟩ := ⟨_, rfl⟩
          rw [← hT] at t7 t0
          clear hT
          have e3 : (T.toList != T.toList) = false := by simp
          clear o7 y7 hl6 hmk
          go_wp2_with fail
          refine (awake_any _).mono ?_
          rintro e wa ⟨rfl, ba⟩
          have HA : Hid (Below w.heap.size w wa) := HBz.out.trans (ba.mono HBz.out.size)
          clear ba
          go_wp2_with fail
          go_ret
          exact ⟨rfl, HA.out⟩
        · have HE2 : Hid _ := e2
          have ne2 := e2
          clear e2
          obtain ⟨er, her⟩ : ∃ er, er = (parS b).2 := ⟨_, rfl⟩
          rw [← her] at ne2 ⊢
          have HBz := HB6
          clear her HE2 HB6 o6 k6
          go_wp2_with fail
          refine (awake_any _).mono ?_
          rintro e wa ⟨rfl, ba⟩
          have HA : Hid (Below w.heap.size w wa) := HBz.out.trans (ba.mono HBz.out.size)
          clear ba
          go_wp2_with fail
          go_ret
          exact ⟨rfl, HA.out⟩
end Go.Proofs.Ytifofcodmgglkaa
