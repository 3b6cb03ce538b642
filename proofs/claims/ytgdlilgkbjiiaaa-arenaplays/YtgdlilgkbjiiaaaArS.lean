
/-
  relictref11.Extent.
-/
import Derived.Test.YtgdlilgkbjiiaaaArR
namespace Go.Proofs.Ytgdlilgkbjiiaaa
open Go.RowKit
set_option linter.unusedVariables false
set_option linter.unusedSimpArgs false

set_option maxRecDepth 100000 in
set_option maxHeartbeats 1000000 in
theorem rextent_any (w : World) (q base S : Nat) (v : Value) (W : List Int) (at' : Int) (h : Ra w q base v W S) :
    Calls Try.prog 18 #[.pointer (some ⟨q, 0, none⟩), .int .i64 at'] w fun e w' => e = .returned (.int .i64 (extS W at')) ∧ w = w' := by
  have HE : Hid (extS W at' = if (0 ≤ at' ∧ at' < (W.length : Int)) ∧ objN (W.getD at'.toNat 0) ≤ (W.length : Int) - at' then objN (W.getD at'.toNat 0) else 0) := rfl
  obtain ⟨-, c0, -⟩ := h.facts
  by_cases hi : 0 ≤ at' ∧ at' < (W.length : Int)
  · obtain ⟨i, rfl⟩ : ∃ i : Nat, at' = (i : Int) := ⟨at'.toNat, by omega⟩
    have hi2 : i < W.length := by omega
    have hq := h.ok.getD i
    obtain ⟨g, cap, rfl, -, c1, -, -⟩ := h.at i hi2
    rw [show (i : Int).toNat = i by omega] at HE
    obtain ⟨x, hx⟩ : ∃ x, x = W.getD i 0 := ⟨_, rfl⟩
    rw [← hx] at c1 HE hq
    clear hx
    have hlen : (W.length : Int) ≤ 32768 := by have := h.fit; have := h.lim; omega
    have hlt : (i : Int) < (W.length : Int) := by omega
    have HO := objN_bd x hq
    have HH : Hid (∀ W, Calls Try.prog 26 #[.int .u64 x] W fun e w' => e = .returned (.tuple #[.int .i64 (hkR x), .int .i64 (hsR x), .bool (decide (x % 4 = 0))]) ∧ W = w') := fun W => rheadOf_w x W hq.1 hq.2
    have hn : objN x = if x % 4 = 0 then 1 + hsR x else 2 := rfl
    obtain ⟨n, hnn⟩ : ∃ n, n = objN x := ⟨_, rfl⟩
    rw [← hnn] at HE HO hn
    have hs : 0 ≤ hsR x ∧ hsR x ≤ 288230376151711744 := by unfold hsR; split <;> omega
    have hwr : IntKind.i64.wrap ((W.length : Int) - (i : Int)) = (W.length : Int) - (i : Int) := by rw [IntKind.wrap_i64]; omega
    by_cases h4 : x % 4 = 0
    · rw [decide_eq_true h4] at HH
      rw [if_pos h4] at hn
      generalize hkR x = k at *
      generalize hsR x = s at *
      subst hn
      by_cases hg : (W.length : Int) < s
      · rw [HE.out, if_neg (fun e => by have := e.2; omega)]
        clear h h4 hnn hi HE
        go_enter Try.func18, Try.ntmps18
        go_wp2_with fail
        refine (HH.out _).mono ?_
        rintro e w1 ⟨rfl, rfl⟩
        go_wp2_with fail
        go_ret
        exact ⟨rfl, rfl⟩
      · by_cases hf : 1 + s ≤ (W.length : Int) - (i : Int)
        · rw [HE.out, if_pos ⟨hi, hf⟩]
          have hf2 : ¬ (W.length : Int) - (i : Int) < 1 + s := by omega
          clear h h4 hnn hi HE
          go_enter Try.func18, Try.ntmps18
          go_wp2_with fail
          refine (HH.out _).mono ?_
          rintro e w1 ⟨rfl, rfl⟩
          go_wp2_with fail
          go_ret
          exact ⟨rfl, rfl⟩
        · rw [HE.out, if_neg (fun e => hf e.2)]
          have hf2 : (W.length : Int) - (i : Int) < 1 + s := by omega
          clear h h4 hnn hi HE
          go_enter Try.func18, Try.ntmps18
          go_wp2_with fail
          refine (HH.out _).mono ?_
          rintro e w1 ⟨rfl, rfl⟩
          go_wp2_with fail
          go_ret
          exact ⟨rfl, rfl⟩
    · rw [decide_eq_false h4] at HH
      rw [if_neg h4] at hn
      subst hn
      generalize hkR x = k at *
      generalize hsR x = s at *
      by_cases hf : 2 ≤ (W.length : Int) - (i : Int)
      · rw [HE.out, if_pos ⟨hi, hf⟩]
        have hf2 : ¬ (W.length : Int) - (i : Int) < 2 := by omega
        clear h h4 hnn hi HE
        go_enter Try.func18, Try.ntmps18
        go_wp2_with fail
        refine (HH.out _).mono ?_
        rintro e w1 ⟨rfl, rfl⟩
        go_wp2_with fail
        go_ret
        exact ⟨rfl, rfl⟩
      · rw [HE.out, if_neg (fun e => hf e.2)]
        have hf2 : (W.length : Int) - (i : Int) < 2 := by omega
        clear h h4 hnn hi HE
        go_enter Try.func18, Try.ntmps18
        go_wp2_with fail
        refine (HH.out _).mono ?_
        rintro e w1 ⟨rfl, rfl⟩
        go_wp2_with fail
        go_ret
        exact ⟨rfl, rfl⟩
  · rw [HE.out, if_neg (fun e => hi e.1)]
    obtain ⟨a, cap, rfl⟩ := h.shape
    clear h HE
    by_cases hn : at' < 0
    · clear hi
      go_enter Try.func18, Try.ntmps18
      go_wp2_with fail
      go_ret
      exact ⟨rfl, rfl⟩
    · have hl : (W.length : Int) ≤ at' := by omega
      clear hi
      go_enter Try.func18, Try.ntmps18
      go_wp2_with fail
      go_ret
      exact ⟨rfl, rfl⟩

theorem Sq.shape {w : World} {v : Value} {W : List Int} (h : Sq w v W) : ∃ a cap, v = .slice a W.length cap ∧ W.length ≤ cap ∧ cap ≤ 9223372036854775807 ∧ (a = none → cap = 0) := by
  obtain ⟨-, a, cap, rfl, h1, h2, h3, -⟩ := h
  exact ⟨a, cap, rfl, h1, h2, h3⟩
theorem Sq.at {w : World} {a : Option Addr} {n cap : Nat} {W : List Int} (h : Sq w (.slice a n cap) W) (k : Nat) (hk : k < W.length) :
    ∃ b off, a = some ⟨b, off, none⟩ ∧ w.cell? ⟨b, off + k, none⟩ = some (.int .u64 (W.getD k 0)) := by
  obtain ⟨-, a', c', he, -, -, -, hp⟩ := h
  injection he with e1 e2 e3
  subst e1
  obtain ⟨b, off, rfl, -, hc⟩ := hp (by omega)
  exact ⟨b, off, rfl, hc k hk⟩

set_option maxHeartbeats 1000000 in
theorem sameWords_any (w : World) (va vb : Value) (a : List Int) (ha : Sq w va a) (hb : Sq w vb a) :
    Calls Try.prog 19 #[va, vb] w fun e w' => e = .returned (.bool true) ∧ Below w.heap.size w w' := by
  obtain ⟨pa, ca, rfl, hl1, hl2, -⟩ := ha.shape
  obtain ⟨pb, cb, rfl, -⟩ := hb.shape
  have hne : ((a.length : Int) != (a.length : Int)) = false := by simp
  go_enter Try.func19, Try.ntmps19
  go_wp2_with fail
  go_loopw [5] (fun i wr => ∃ k : Nat, k ≤ a.length ∧ i = .int .i64 k ∧ Below w.heap.size w wr) (fun i _ => a.length - (intOf i).toNat)
  case atStart => exact ⟨0, by omega, rfl, Below.refl _ _⟩
  case round =>
    obtain ⟨k, hk, rfl, hbel⟩ := hrel
    by_cases hkl : k < a.length
    · obtain ⟨b1, off1, rfl, c1⟩ := (ha.under hbel).at k hkl
      obtain ⟨b2, off2, rfl, c2⟩ := (hb.under hbel).at k hkl
      generalize a.getD k 0 = x at *
      have hx : (x != x) = false := by simp
      have hkl' : (k : Int) < (a.length : Int) := by omega
      go_wp2_with fail
      go_quiet (fail)
      go_wp2_with fail
      go_roundw
      case rel => exact ⟨k + 1, by omega, by go_num, below_drewN hbel _⟩
      case measure => simp [intOf]; omega
    · go_wp2_with fail
      go_ret
      exact ⟨rfl, hbel⟩

set_option maxRecDepth 100000 in
set_option maxHeartbeats 1000000 in
theorem awake11 (w : World) : Calls Try.prog 21 #[] w fun e w' => e = .returned (.bool true) ∧ Below w.heap.size w w' := by
  have H1 : Hid (Calls Try.prog 6 #[.int .i64 2] w fun e w' => NewA 2 w e w') := anew_any 2 w (by decide) (by decide)
  have H2 : Hid (∀ W p b, Ar W p b [] 2 → Calls Try.prog 9 #[.pointer (some ⟨p, 0, none⟩), .int .i64 2] W fun e w' => e = .returned (.tuple #[.int .i64 0, .bool true]) ∧ Ar w' p b (zq 2) 2 ∧ Ot p W w') := fun W p b h =>
    (aalloc_yes W p b 2 [] 2 h (by decide)).mono fun e w' k => ⟨k.1, k.2.1, k.2.2.1⟩
  have H3 : Hid (∀ W p b, Ar W p b (zq 2) 2 → Calls Try.prog 9 #[.pointer (some ⟨p, 0, none⟩), .int .i64 1] W fun e w' => e = .returned (.tuple #[.int .i64 0, .bool false]) ∧ W = w') := fun W p b h =>
    aalloc_no W p b 2 (zq 2) 1 h (by decide)
  have H4 : Hid (∀ W p b, Ar W p b (zq 2) 2 → Calls Try.prog 13 #[.pointer (some ⟨p, 0, none⟩)] W fun e w' => e = .returned (.int .i64 2) ∧ W = w') := fun W p b h => aused_any W p b 2 (zq 2) h
  have H5 : Hid (∀ W p b, Ar W p b (zq 2) 2 → Calls Try.prog 14 #[.pointer (some ⟨p, 0, none⟩)] W fun e w' => e = .returned (.int .i64 2) ∧ W = w') := fun W p b h => asize_any W p b 2 (zq 2) h
  go_enter Try.func21, Try.ntmps21
  go_wp2_with fail
  refine H1.out.mono ?_
  rintro e w1 ⟨p, b, rfl, hb1, hb2, ha, hb⟩
  have HA : Hid (Ar w1 p b [] 2) := ha
  have HB : Hid (Below w.heap.size w w1) := hb
  have HL : Hid (w.heap.size ≤ w1.heap.size) := hb.size
  have HP : Hid (w.heap.size ≤ p) := by show _ ≤ _; omega
  clear ha hb hb1 hb2
  go_wp2_with fail
  refine (H2.out _ _ _ HA.out).mono ?_
  rintro e w2 ⟨rfl, ha2, ho2⟩
  have HA2 : Hid (Ar w2 p b (zq 2) 2) := ha2
  have HB2 : Hid (Below w.heap.size w w2) := HB.out.trans (ho2.below HL.out HP.out)
  clear ha2 ho2
  go_wp2_with fail
  refine (H3.out _ _ _ HA2.out).mono ?_
  rintro e w3 ⟨rfl, rfl⟩
  go_wp2_with fail
  refine (H4.out _ _ _ HA2.out).mono ?_
  rintro e w3 ⟨rfl, rfl⟩
  go_wp2_with fail
  refine (H5.out _ _ _ HA2.out).mono ?_
  rintro e w3 ⟨rfl, rfl⟩
  go_wp2_with fail
  go_ret
  exact ⟨rfl, HB2.out⟩
end Go.Proofs.Ytgdlilgkbjiiaaa
