
/-
  arena: Extent, Words.
-/
import Derived.Test.YtgdlilgkbjiiaaaArA
namespace Go.Proofs.Ytgdlilgkbjiiaaa
open Go.RowKit
set_option linter.unusedVariables false
set_option linter.unusedSimpArgs false

/-- How many words an object has that begins with x. -/
def objN (x : Int) : Int := if x % 4 = 0 then 1 + hsR x else 2
theorem objN_bd (x : Int) (h : 0 ≤ x ∧ x < 18446744073709551616) : 1 ≤ objN x ∧ objN x ≤ 288230376151711745 := by
  unfold objN hsR; split <;> omega
/-- What Extent answers. -/
def extS (W : List Int) (at' : Int) : Int := if (0 ≤ at' ∧ at' < (W.length : Int)) ∧ objN (W.getD at'.toNat 0) ≤ (W.length : Int) - at' then objN (W.getD at'.toNat 0) else 0

theorem wordS_at (W : List Int) (i : Nat) (hi : i < W.length) : wordS W (i : Int) = W.getD i 0 := by
  unfold wordS; rw [if_pos (by omega), show (i : Int).toNat = i by omega]

set_option maxRecDepth 100000 in
set_option maxHeartbeats 1000000 in
theorem aextent_any (w : World) (p b S : Nat) (W : List Int) (at' : Int) (h : Ar w p b W S) :
    Calls Try.prog 17 #[.pointer (some ⟨p, 0, none⟩), .int .i64 at'] w fun e w' => e = .returned (.int .i64 (extS W at')) ∧ w = w' := by
  have HE : Hid (extS W at' = if (0 ≤ at' ∧ at' < (W.length : Int)) ∧ objN (W.getD at'.toNat 0) ≤ (W.length : Int) - at' then objN (W.getD at'.toNat 0) else 0) := rfl
  by_cases hi : 0 ≤ at' ∧ at' < (W.length : Int)
  · obtain ⟨i, rfl⟩ : ∃ i : Nat, at' = (i : Int) := ⟨at'.toNat, by omega⟩
    have hi2 : i < W.length := by omega
    have hq := h.ok.getD i
    have HW : Hid (∀ w, Ar w p b W S → Calls Try.prog 15 #[.pointer (some ⟨p, 0, none⟩), .int .i64 (i : Int)] w fun e w' => e = .returned (.int .u64 (W.getD i 0)) ∧ w = w') := fun w hw => by
      have := aword_any w p b S W (i : Int) hw
      rwa [wordS_at W i hi2] at this
    rw [show (i : Int).toNat = i by omega] at HE
    obtain ⟨x, hx⟩ : ∃ x, x = W.getD i 0 := ⟨_, rfl⟩
    rw [← hx] at HW HE hq
    clear hx
    have hlen : (W.length : Int) ≤ 32768 := by have := h.fit; have := h.lim; omega
    have HO := objN_bd x hq
    have HU : Hid (∀ w, Ar w p b W S → Calls Try.prog 24 #[.pointer (some ⟨p, 0, none⟩), .int .i64 (i : Int)] w fun e w' => e = .returned (.bool true) ∧ w = w') := fun w hw => aisUsed_yes w p b S W i hw hi2
    have HL : Hid (∀ w, Ar w p b W S → Calls Try.prog 13 #[.pointer (some ⟨p, 0, none⟩)] w fun e w' => e = .returned (.int .i64 (W.length : Int)) ∧ w = w') := fun w hw => aused_any w p b S W hw
    have HH : Hid (∀ W, Calls Try.prog 25 #[.int .u64 x] W fun e w' => e = .returned (.tuple #[.int .i64 (hkR x), .int .i64 (hsR x), .bool (decide (x % 4 = 0))]) ∧ W = w') := fun W => wheadOf_any x W hq.1 hq.2
    have HA : Hid (Ar w p b W S) := h
    have hn : objN x = if x % 4 = 0 then 1 + hsR x else 2 := rfl
    obtain ⟨n, hnn⟩ : ∃ n, n = objN x := ⟨_, rfl⟩
    rw [← hnn] at HE HO hn
    have hs : 0 ≤ hsR x ∧ hsR x ≤ 288230376151711744 := by unfold hsR; split <;> omega
    by_cases h4 : x % 4 = 0
    · rw [decide_eq_true h4] at HH
      rw [if_pos h4] at hn
      generalize hkR x = k at *
      generalize hsR x = s at *
      subst hn
      by_cases hf : 1 + s ≤ (W.length : Int) - (i : Int)
      · rw [HE.out, if_pos ⟨hi, hf⟩]
        have hf2 : ¬ (W.length : Int) - (i : Int) < 1 + s := by omega
        clear h h4 hnn hi HE
        go_enter Try.func17, Try.ntmps17
        go_wp2_with fail
        refine (HU.out _ HA.out).mono ?_
        rintro e w1 ⟨rfl, rfl⟩
        go_wp2_with fail
        refine (HW.out _ HA.out).mono ?_
        rintro e w1 ⟨rfl, rfl⟩
        go_wp2_with fail
        refine (HH.out _).mono ?_
        rintro e w1 ⟨rfl, rfl⟩
        go_wp2_with fail
        refine (HL.out _ HA.out).mono ?_
        rintro e w1 ⟨rfl, rfl⟩
        go_wp2_with fail
        go_ret
        exact ⟨rfl, rfl⟩
      · rw [HE.out, if_neg (fun e => hf e.2)]
        have hf2 : (W.length : Int) - (i : Int) < 1 + s := by omega
        clear h h4 hnn hi HE
        go_enter Try.func17, Try.ntmps17
        go_wp2_with fail
        refine (HU.out _ HA.out).mono ?_
        rintro e w1 ⟨rfl, rfl⟩
        go_wp2_with fail
        refine (HW.out _ HA.out).mono ?_
        rintro e w1 ⟨rfl, rfl⟩
        go_wp2_with fail
        refine (HH.out _).mono ?_
        rintro e w1 ⟨rfl, rfl⟩
        go_wp2_with fail
        refine (HL.out _ HA.out).mono ?_
        rintro e w1 ⟨rfl, rfl⟩
        go_wp2_with fail
        go_ret
        exact ⟨rfl, rfl⟩
    · rw [decide_eq_false h4] at HH
      rw [if_neg h4] at hn
      subst hn
      generalize hkR x = k at *
      generalize hsR x = s at *
      by_cases hf : 2 ≤ (W.length : Int) - (i : Int)
      · rw [HE.out, if_pos ⟨hi, hf⟩]
        have hf2 : ¬ (W.length : Int) - (i : Int) < 2 := by omega
        clear h h4 hnn hi HE
        go_enter Try.func17, Try.ntmps17
        go_wp2_with fail
        refine (HU.out _ HA.out).mono ?_
        rintro e w1 ⟨rfl, rfl⟩
        go_wp2_with fail
        refine (HW.out _ HA.out).mono ?_
        rintro e w1 ⟨rfl, rfl⟩
        go_wp2_with fail
        refine (HH.out _).mono ?_
        rintro e w1 ⟨rfl, rfl⟩
        go_wp2_with fail
        refine (HL.out _ HA.out).mono ?_
        rintro e w1 ⟨rfl, rfl⟩
        go_wp2_with fail
        go_ret
        exact ⟨rfl, rfl⟩
      · rw [HE.out, if_neg (fun e => hf e.2)]
        have hf2 : (W.length : Int) - (i : Int) < 2 := by omega
        clear h h4 hnn hi HE
        go_enter Try.func17, Try.ntmps17
        go_wp2_with fail
        refine (HU.out _ HA.out).mono ?_
        rintro e w1 ⟨rfl, rfl⟩
        go_wp2_with fail
        refine (HW.out _ HA.out).mono ?_
        rintro e w1 ⟨rfl, rfl⟩
        go_wp2_with fail
        refine (HH.out _).mono ?_
        rintro e w1 ⟨rfl, rfl⟩
        go_wp2_with fail
        refine (HL.out _ HA.out).mono ?_
        rintro e w1 ⟨rfl, rfl⟩
        go_wp2_with fail
        go_ret
        exact ⟨rfl, rfl⟩
  · have HU : Hid (Calls Try.prog 24 #[.pointer (some ⟨p, 0, none⟩), .int .i64 at'] w fun e w' => e = .returned (.bool false) ∧ w = w') := aisUsed_no w p b S W at' h (by omega)
    rw [HE.out, if_neg (fun e => hi e.1)]
    clear h hi HE
    go_enter Try.func17, Try.ntmps17
    go_wp2_with fail
    refine HU.out.mono ?_
    rintro e w1 ⟨rfl, rfl⟩
    go_wp2_with fail
    go_ret
    exact ⟨rfl, rfl⟩

/-- A slice of words, to be read. -/
def Sq (w : World) (v : Value) (W : List Int) : Prop :=
  Q8 W ∧ ∃ a cap, v = .slice a W.length cap ∧ W.length ≤ cap ∧ cap ≤ 9223372036854775807 ∧ (a = none → cap = 0) ∧
    (0 < W.length → ∃ g off, a = some ⟨g, off, none⟩ ∧ g < w.heap.size ∧ ∀ i, i < W.length → w.cell? ⟨g, off + i, none⟩ = some (.int .u64 (W.getD i 0)))
/-- A row of words of the call's own. -/
def Oq (w : World) (base : Nat) (v : Value) (W : List Int) : Prop := w.ownsRow base 27 1 v W.length (uv W)
theorem Sq.under {w w' : World} {v : Value} {W : List Int} (h : Sq w v W) (hb : Below w.heap.size w w') : Sq w' v W := by
  obtain ⟨hq, a, cap, rfl, hl, hm, hn, hp⟩ := h
  refine ⟨hq, a, cap, rfl, hl, hm, hn, fun h0 => ?_⟩
  obtain ⟨g, off, rfl, hg, hc⟩ := hp h0
  refine ⟨g, off, rfl, Nat.lt_of_lt_of_le hg hb.size, fun i hi => ?_⟩
  rw [hb.cell (p := ⟨g, off + i, none⟩) hg]; exact hc i hi
set_option maxRecDepth 100000 in
theorem Oq.sq {w : World} {base : Nat} {v : Value} {a : List Int} (h : Oq w base v a) (hok : Q8 a) : Sq w v a := by
  obtain ⟨h1, h2⟩ := h
  rcases h2 with ⟨rfl, h3⟩ | ⟨g, cap, cur, rfl, hb, hh, hn, hm, hs, ht⟩
  · obtain rfl : a = [] := List.eq_nil_of_length_eq_zero h3
    exact ⟨hok, none, 0, rfl, Nat.le_refl _, by decide, fun _ => rfl, fun h => absurd h (by decide)⟩
  · refine ⟨hok, _, _, rfl, hn, by simpa [maxLen] using hm, fun e => (by cases e), fun h0 => ⟨g, 0, rfl, (Array.getElem?_eq_some_iff.1 hh).1, fun i hi => ?_⟩⟩
    rw [Nat.zero_add, cell_of_row w g i _ _ _ hh]
    have e := congrArg (fun l : List Value => l[i]?) ht
    simp only [Nat.mul_one, List.getElem?_take_of_lt hi, uv, List.getElem?_map, Array.getElem?_toList] at e
    rw [e]
    simp [List.getD, hi]
theorem Ar.sq {w : World} {p b S : Nat} {W : List Int} (h : Ar w p b W S) : Sq w (.slice (some ⟨b, 0, none⟩) W.length S) W :=
  ⟨h.ok, _, _, rfl, h.fit, by have := h.lim; omega, fun e => (by cases e), fun h0 => ⟨b, 0, rfl, h.ltb, fun i hi => by rw [Nat.zero_add]; exact (h.cell i hi).1⟩⟩
theorem Sq.news {w : World} {ad : Addr} {m c : Nat} {l : List Int} (h : Sq w (.slice (some ad) m c) l) : m = l.length ∧ ∀ j u, (uv l)[j]? = some u → w.cell? (ad.add j) = some u := by
  obtain ⟨hq, a, cap, he, hl, hm, hn, hp⟩ := h
  injection he with e1 e2 e3
  refine ⟨e2, fun j u hu => ?_⟩
  have hj : j < l.length := by
    have := (List.getElem?_eq_some_iff.1 hu).1
    rwa [uv_len] at this
  obtain ⟨g, off, rfl, hg, hc⟩ := hp (by omega)
  injection e1 with e1
  subst e1
  have := hc j hj
  rw [show (⟨g, off, none⟩ : Addr).add j = ⟨g, off + j, none⟩ by unfold Addr.add; split <;> simp_all, this]
  simp [uv, hj] at hu
  simp [List.getD, hj, hu]

/-- A slice of words in new memory. -/
def NewQ (W : List Int) (w : World) (e : Ending) (w' : World) : Prop := ∃ v, e = .returned v ∧ Oq w' w.heap.size v W ∧ Below w.heap.size w w'

set_option maxRecDepth 100000 in
theorem clone64_any (w : World) (v : Value) (W : List Int) (h : Sq w v W) (hl : W.length ≤ 1000000) (hne : ∃ ad m c, v = .slice (some ad) m c) :
    Calls Try.prog 27 #[v] w fun e w' => NewQ W w e w' := by
  obtain ⟨ad, m, c, rfl⟩ := hne
  obtain ⟨rfl, hn⟩ := h.news
  obtain ⟨i, hi, hz0, hz1, hz2⟩ := info_parts Try.infoU64
  have hnil : ∀ w, (binOp .eql 35 (.slice (some ad) W.length c) (.slice none 0 0)).run Try.prog w = .ok (.bool false) w := fun w => Lib.run_eql_slice_nil w 35 27 (some ad) W.length c 0 0 Try.underlying35
  go_enter Try.func27, Try.ntmps27
  have hown : (w.alloc (.cells #[] 27)).ownsRow w.heap.size 27 1 (.slice (some ⟨w.heap.size, 0, none⟩) 0 0) 0 [] :=
    ⟨rfl, .inr ⟨w.heap.size, 0, #[], rfl, Nat.le_refl _, heap_alloc_new _ _, Nat.le_refl _, by decide, rfl, rfl⟩⟩
  have hn2 : ∀ j u, (uv W)[j]? = some u → (w.alloc (.cells #[] 27)).cell? (ad.add j) = some u := by
    have hb : Below w.heap.size w (w.alloc (.cells #[] 27)) := (Below.refl _ _).alloc (Nat.le_refl _) _
    exact (h.under hb).news.2
  have HN : Hid _ := hn2
  clear hn hn2
  go_wp2_with (first | (at_builtin; refine wpList_append_own _ rfl _ _ 35 rfl w.heap.size 27 i (.int .u64 0) 1 8 Try.underlying35 hi hz0 hz1 hz2 rfl (by decide) (.slice (some ⟨w.heap.size, 0, none⟩) 0 0) 0 [] rfl hown ad W.length c (uv W) rfl (by simp [uv_len]) HN.out (ints_oneCell _ _) (by simp only [maxLen]; omega) (by omega) (by simp) ?_; intro v' w1 hown1 hgr1 _) | fail)
  go_ret
  refine ⟨v', rfl, by unfold Oq; simpa [uv_len] using hown1, (((Below.refl _ w).alloc (Nat.le_refl _) _).grown hgr1 (by simp) (fun k hk => by simp [Value.ownBlock] at hk; omega))⟩

theorem awords_any (w : World) (p b S : Nat) (W : List Int) (h : Ar w p b W S) :
    Calls Try.prog 20 #[.pointer (some ⟨p, 0, none⟩)] w fun e w' => NewQ W w e w' := by
  obtain ⟨c0, -⟩ := h.facts
  have HC : Hid (Calls Try.prog 27 #[.slice (some ⟨b, 0, none⟩) W.length S] w fun e w' => NewQ W w e w') := clone64_any w _ W h.sq (by have := h.fit; have := h.lim; omega) ⟨_, _, _, rfl⟩
  clear h
  go_enter Try.func20, Try.ntmps20
  go_wp2_with fail
  refine HC.out.mono ?_
  rintro e w1 ⟨v, rfl, ho, hb⟩
  go_wp2_with fail
  go_ret
  exact ⟨v, rfl, ho, hb⟩
end Go.Proofs.Ytgdlilgkbjiiaaa
