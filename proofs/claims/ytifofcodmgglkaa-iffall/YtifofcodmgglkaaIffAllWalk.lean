/-
  relictlaw05.IffAll.
-/
import Derived.Test.YtifofcodmgglkaaIffRefD
import Derived.Test.YtifofcodmgglkaaIffSpoiltWalk
namespace Go.Proofs.Ytifofcodmgglkaa
open Go.RowKit Go.Maps
set_option linter.unusedVariables false
set_option linter.unusedSimpArgs false

theorem Ch.newsx {w : World} {x : Addr} {n cap : Nat} {l : List Ck} (h : Ch w (.slice (some x) n cap) l) : ∀ j u, (cv l)[j]? = some u → w.cell? (x.add j) = some u := by
  intro j u hu
  have hj : j < l.length * 2 := by
    have := (List.getElem?_eq_some_iff.1 hu).1
    rwa [cv_len] at this
  obtain ⟨b', off', he, -⟩ := h.at 0 (by omega)
  injection he with he
  subst he
  exact h.news j u hu

set_option maxHeartbeats 16000000 in
theorem iffAll_walk (v0 : Value) (b : List UInt8) (v1 : Value) (l : List Ck) (nm : ByteArray) (w : World) (h0 : By w v0 b) (h1 : Ch w v1 l) :
    Calls Try.prog 3 #[v0, v1, .string nm] w fun e w' => e = .returned (.bool true) ∧ Below w.heap.size w w' := by
  obtain ⟨a0, cap0, rfl, hc0, hm0, hn0⟩ := h0.shape
  obtain ⟨a1, cap1, rfl, hc1, hm1, hn1⟩ := h1.shape
  obtain ⟨i1, ki, kz0, kz1, kz2⟩ := info_parts Try.infoCk
  have HBz : Hid (Below w.heap.size w w) := Below.refl _ _
  by_cases h7 : (70000 : Int) < (b.length : Int)
  · go_enter Try.func3, Try.ntmps3
    go_wp2_with fail
    refine (awake_any _).mono ?_
    rintro e wa ⟨rfl, ba⟩
    have HA : Hid (Below w.heap.size w wa) := HBz.out.trans (ba.mono HBz.out.size)
    clear ba
    go_wp2_with fail
    go_ret
    exact ⟨rfl, HA.out⟩
  · have h7' : b.length ≤ 70000 := by omega
    go_enter Try.func3, Try.ntmps3
    go_wp2_with fail
    refine (few_any _ l _ h1).mono ?_
    rintro e w1 ⟨q, rfl, hq, rfl⟩
    cases q
    · clear hq
      go_wp2_with fail
      refine (awake_any _).mono ?_
      rintro e wa ⟨rfl, ba⟩
      have HA : Hid (Below w.heap.size w wa) := HBz.out.trans (ba.mono HBz.out.size)
      clear ba
      go_wp2_with fail
      go_ret
      exact ⟨rfl, HA.out⟩
    · obtain ⟨hl12, hl3⟩ := hq rfl
      have hl13 : (l.length : Int) ≤ 100000000000000 := by omega
      clear hq HBz
      go_wp2_with fail
      refine (bytes_any _ b _ h0 (by omega)).mono ?_
      rintro e w2 ⟨v2, rfl, o2, b2⟩
      have HB2 : Hid _ := b2
      clear b2
      go_wp2_with fail
      refine (parse_any _ b _ o2.by).mono ?_
      rintro e w3 ⟨v3, rfl, o3, k3, b3⟩
      have HB3 : Hid (Below w.heap.size w w3) := HB2.out.trans (b3.mono HB2.out.size)
      clear b3 HB2 o2
      obtain ⟨R, hR⟩ : ∃ R, R = parS b := ⟨_, rfl⟩
      have hRp : ∀ W : World, By W (.slice a0 b.length cap0) b → Calls Try.prog 12 #[.slice a0 b.length cap0] W fun e w' => ParPost W R e w' := fun W hW => by rw [hR]; exact rparse_any _ b W hW
      rw [← hR] at o3 k3 ⊢
      have HRP : Hid (∀ W : World, By W (.slice a0 b.length cap0) b → Calls Try.prog 12 #[.slice a0 b.length cap0] W fun e w' => ParPost W R e w') := hRp
      clear hRp hR
      go_wp2_with fail
      refine (HRP.out _ (h0.under HB3.out)).mono ?_
      rintro e w4 ⟨v4, rfl, o4, k4, b4⟩
      have HB4 : Hid (Below w.heap.size w w4) := HB3.out.trans (b4.mono HB3.out.size)
      have cx4 := (o3.ch k3).under b4
      have cy4 := o4.ch k4
      clear b4 HB3 o3 k3 o4 k4 HRP
      have hsz4 := HB4.out.size
      cases a1 with
      | none =>
        have hcz := hn1 rfl
        have hll : l.length = 0 := by omega
        have HL0 : Hid (l = []) := List.eq_nil_of_length_eq_zero hll
        subst hcz
        rw [hll] at h1
        go_wp2_with (first
          | (at_builtin; refine wpList_append_own_none rfl _ _ 23 rfl w.heap.size 39 i1 2 Try.underlying23 ki (.slice none 0 0) 0 [] rfl (OC.nil w4 w.heap.size) rfl ?_)
          | fail)
        generalize hw5 : w4 = w5 at *
        have o5 : OC w5 w.heap.size (.slice none 0 0) l := by rw [HL0.out]; exact OC.nil _ _
        have HB5 := HB4
        have cx5 := cx4
        have cy5 := cy4
        clear cx4 cy4 HB4 hw5
        have hc5 := o5.ch h1.1
        refine (make_any _ l _ hc5 hl13).mono ?_
        rintro e w6 ⟨v6, rfl, o6, b6⟩
        have HB6 : Hid (Below w.heap.size w w6) := HB5.out.trans (b6.mono HB5.out.size)
        have y6 := o6.by
        have cx6 := cx5.under b6
        have cy6 := cy5.under b6
        clear o6 b6 HB5 hc5 o5 cx5 cy5
        go_wp2_with fail
        refine (rmake_any _ l _ (h1.under HB6.out) hl12 hl3).mono ?_
        rintro e w7 ⟨v7, rfl, y7, b7⟩
        have HB7 : Hid (Below w.heap.size w w7) := HB6.out.trans (b7.mono HB6.out.size)
        have y6' := y6.under b7
        have cx7 := cx6.under b7
        have cy7 := cy6.under b7
        clear b7 HB6 y6 cx6 cy6
        go_wp2_with fail
        refine (find_any _ l nm _ (h1.under HB7.out)).mono ?_
        rintro e w8 ⟨rfl, b8⟩
        have HB8 : Hid (Below w.heap.size w w8) := HB7.out.trans (b8.mono HB7.out.size)
        have y6'' := y6'.under b8
        have y7' := y7.under b8
        have cx8 := cx7.under b8
        have cy8 := cy7.under b8
        clear b8 HB7 y6' y7 cx7 cy7
        go_wp2_with fail
        refine (rfind_any _ l nm _ (h1.under HB8.out)).mono ?_
        rintro e w9 ⟨rfl, rfl⟩
        obtain ⟨S, hS⟩ : ∃ S, S = (finS l nm).1 := ⟨_, rfl⟩
        obtain ⟨q, hq⟩ : ∃ q, q = (finS l nm).2 := ⟨_, rfl⟩
        rw [← hS, ← hq]
        clear hS hq
        obtain ⟨B, hB⟩ : ∃ B, B = (makS l).1 := ⟨_, rfl⟩
        obtain ⟨er, her⟩ : ∃ er, er = (makS l).2 := ⟨_, rfl⟩
        rw [← hB] at y6'' y7'
        rw [← her]
        clear hB her
        go_wp2_with fail
        refine (same_any _ _ R.1 _ cx8 cy8).mono ?_
        rintro e wz ⟨rfl, bz⟩
        have HBz : Hid (Below w.heap.size w wz) := HB8.out.trans (bz.mono HB8.out.size)
        have z6 := y6''.under bz
        have z7 := y7'.under bz
        obtain ⟨a6, c6, rfl, -, -, -⟩ := z6.shape
        obtain ⟨a7, c7, rfl, -, -, -⟩ := z7.shape
        have t6 := z6.text
        have t7 := z7.text
        obtain ⟨T, hT⟩ : ∃ T : ByteArray, T = ⟨B.toArray⟩ := ⟨_, rfl⟩
        rw [← hT] at t6 t7
        clear hT bz HB8 y6'' y7' z6 z7 cx8 cy8
        go_wp2_with fail
        refine (awake_any _).mono ?_
        rintro e wa ⟨rfl, ba⟩
        have HA : Hid (Below w.heap.size w wa) := HBz.out.trans (ba.mono HBz.out.size)
        clear ba
        go_wp2_with fail
        go_ret
        exact ⟨rfl, HA.out⟩
      | some x =>
        have hnw := (h1.under HB4.out).newsx
        go_wp2_with (first
          | (at_builtin; refine wpList_append_own _ rfl _ _ 23 rfl w.heap.size 39 i1 (.agg #[.string ⟨#[]⟩, .string ⟨#[]⟩]) 2 32 Try.underlying23 ki kz0 kz1 kz2 rfl (by decide) (.slice none 0 0) 0 [] rfl (OC.nil w4 w.heap.size) x l.length cap1 (cv l) rfl (cv_len l) hnw (cv_one l) (by unfold maxLen; omega) (by omega) hsz4 ?_; intro v5 w5 hown5 hg5 hnil5; replace hg5 : w4.grownBy w5 none := hg5)
          | fail)
        have o5 : OC w5 w.heap.size v5 l := by simpa [OC] using hown5
        have b5 : Below w4.heap.size w4 w5 := (Below.refl _ _).grown hg5 (Nat.le_refl _) (fun j hj => by cases hj)
        have HB5 : Hid (Below w.heap.size w w5) := HB4.out.trans (b5.mono HB4.out.size)
        have cx5 := cx4.under b5
        have cy5 := cy4.under b5
        clear hown5 hg5 hnil5 hnw b5 cx4 cy4 HB4
        have hc5 := o5.ch h1.1
        refine (make_any _ l _ hc5 hl13).mono ?_
        rintro e w6 ⟨v6, rfl, o6, b6⟩
        have HB6 : Hid (Below w.heap.size w w6) := HB5.out.trans (b6.mono HB5.out.size)
        have y6 := o6.by
        have cx6 := cx5.under b6
        have cy6 := cy5.under b6
        clear o6 b6 HB5 hc5 o5 cx5 cy5
        go_wp2_with fail
        refine (rmake_any _ l _ (h1.under HB6.out) hl12 hl3).mono ?_
        rintro e w7 ⟨v7, rfl, y7, b7⟩
        have HB7 : Hid (Below w.heap.size w w7) := HB6.out.trans (b7.mono HB6.out.size)
        have y6' := y6.under b7
        have cx7 := cx6.under b7
        have cy7 := cy6.under b7
        clear b7 HB6 y6 cx6 cy6
        go_wp2_with fail
        refine (find_any _ l nm _ (h1.under HB7.out)).mono ?_
        rintro e w8 ⟨rfl, b8⟩
        have HB8 : Hid (Below w.heap.size w w8) := HB7.out.trans (b8.mono HB7.out.size)
        have y6'' := y6'.under b8
        have y7' := y7.under b8
        have cx8 := cx7.under b8
        have cy8 := cy7.under b8
        clear b8 HB7 y6' y7 cx7 cy7
        go_wp2_with fail
        refine (rfind_any _ l nm _ (h1.under HB8.out)).mono ?_
        rintro e w9 ⟨rfl, rfl⟩
        obtain ⟨S, hS⟩ : ∃ S, S = (finS l nm).1 := ⟨_, rfl⟩
        obtain ⟨q, hq⟩ : ∃ q, q = (finS l nm).2 := ⟨_, rfl⟩
        rw [← hS, ← hq]
        clear hS hq
        obtain ⟨B, hB⟩ : ∃ B, B = (makS l).1 := ⟨_, rfl⟩
        obtain ⟨er, her⟩ : ∃ er, er = (makS l).2 := ⟨_, rfl⟩
        rw [← hB] at y6'' y7'
        rw [← her]
        clear hB her
        go_wp2_with fail
        refine (same_any _ _ R.1 _ cx8 cy8).mono ?_
        rintro e wz ⟨rfl, bz⟩
        have HBz : Hid (Below w.heap.size w wz) := HB8.out.trans (bz.mono HB8.out.size)
        have z6 := y6''.under bz
        have z7 := y7'.under bz
        obtain ⟨a6, c6, rfl, -, -, -⟩ := z6.shape
        obtain ⟨a7, c7, rfl, -, -, -⟩ := z7.shape
        have t6 := z6.text
        have t7 := z7.text
        obtain ⟨T, hT⟩ : ∃ T : ByteArray, T = ⟨B.toArray⟩ := ⟨_, rfl⟩
        rw [← hT] at t6 t7
        clear hT bz HB8 y6'' y7' z6 z7 cx8 cy8
        go_wp2_with fail
        refine (awake_any _).mono ?_
        rintro e wa ⟨rfl, ba⟩
        have HA : Hid (Below w.heap.size w wa) := HBz.out.trans (ba.mono HBz.out.size)
        clear ba
        go_wp2_with fail
        go_ret
        exact ⟨rfl, HA.out⟩
end Go.Proofs.Ytifofcodmgglkaa
