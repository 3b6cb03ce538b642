
/-
  ext: what is got may be, and is put byte for byte (plain).
-/
import Derived.Test.YtbmondbicnfcpaaDoorExtRd
namespace Go.Proofs.YtbmondbicnfcpaaDoor
open Go.RowKit
set_option linter.unusedVariables false
set_option linter.unusedSimpArgs false

theorem seg_app (l : List UInt8) (p m k : Nat) : (l.drop p).take (m + k) = (l.drop p).take m ++ (l.drop (p + m)).take k := by
  rw [List.take_add, List.drop_drop]
/-- What begins, taken apart. -/
theorem bgn_inv {l : List UInt8} {p n d : Nat} (h : (bgn l p n d).e = 0) : ∃ (s : Sh) (W D : List UInt8) (c : Nat), shF (l.getD p 0).toNat = some s ∧ p < l.length ∧ n < 2000 ∧ d ≤ 60 ∧ W.length = s.w ∧ highL W = c ∧ s.lo ≤ c ∧ (c ≤ if s.tag = 108 then s.hi - n else s.hi) ∧ D.length = s.al + s.ea * c ∧ p + (1 + s.w + D.length) ≤ l.length ∧
    (0 < D.length → putO (rawT s.tag D) = l.getD p 0 :: (W ++ D)) ∧ (l.drop p).take (1 + s.w + D.length) = l.getD p 0 :: (W ++ D) ∧ bgn l p n d = ⟨0, rawT s.tag D, if s.tag = 108 then c + 1 else if s.tag = 104 then c else 0, p + (1 + s.w + D.length), if s.tag = 108 then n + c else n + 1⟩ := by
  unfold bgn at h
  by_cases h1 : (fstR l p n d).1 ≠ 0
  · rw [if_pos h1] at h; exact absurd h h1
  rw [if_neg h1] at h
  by_cases h2 : (manR l (p + 1) n (fstR l p n d).2).1 ≠ 0
  · rw [if_pos h2] at h; exact absurd h h2
  rw [if_neg h2] at h
  have hf : p < l.length ∧ n < 2000 ∧ d ≤ 60 ∧ ∃ s, shF (l.getD p 0).toNat = some s ∧ fstR l p n d = (0, s) := by
    unfold fstR at h1 ⊢
    by_cases c1 : l.length < p + 1
    · rw [if_pos c1] at h1; exact absurd (show (3 : Nat) ≠ 0 by decide) h1
    rw [if_neg c1] at h1 ⊢
    by_cases c2 : 2000 ≤ n ∨ 60 < d
    · rw [if_pos c2] at h1; exact absurd (show (4 : Nat) ≠ 0 by decide) h1
    rw [if_neg c2] at h1 ⊢
    refine ⟨by omega, by omega, by omega, ?_⟩
    cases hs : shF (l.getD p 0).toNat with
    | none => rw [hs] at h1; exact absurd (show (4 : Nat) ≠ 0 by decide) h1
    | some s => exact ⟨s, rfl, rfl⟩
  obtain ⟨hp, hn, hd, s, hs, hfs⟩ := hf
  rw [hfs] at h h2
  dsimp only at h h2
  obtain ⟨c, hc⟩ : ∃ c, c = highL ((l.drop (p + 1)).take s.w) := ⟨_, rfl⟩
  have hm : p + 1 + s.w ≤ l.length ∧ s.lo ≤ c ∧ (c ≤ if s.tag = 108 then s.hi - n else s.hi) ∧ manR l (p + 1) n s = (0, c) := by
    unfold manR at h2 ⊢
    by_cases c1 : l.length < p + 1 + s.w
    · rw [if_pos c1] at h2; exact absurd (show (3 : Nat) ≠ 0 by decide) h2
    rw [if_neg c1, ← hc] at h2 ⊢
    by_cases c2 : c < s.lo ∨ (if s.tag = 108 then s.hi - n else s.hi) < c
    · rw [if_pos c2] at h2; exact absurd (show (4 : Nat) ≠ 0 by decide) h2
    rw [if_neg c2]
    exact ⟨by omega, by omega, by omega, rfl⟩
  obtain ⟨hw, hlo, hhi, hms⟩ := hm
  rw [hms] at h
  dsimp only at h
  unfold bgn.bgnD at h
  by_cases h3 : l.length < p + 1 + s.w + (s.al + s.ea * c)
  · rw [if_pos h3] at h; cases h
  rw [if_neg h3] at h
  obtain ⟨D, hD⟩ : ∃ D, D = (l.drop (p + 1 + s.w)).take (s.al + s.ea * c) := ⟨_, rfl⟩
  have hDl : D.length = s.al + s.ea * c := by rw [hD]; simp; omega
  rw [← hD] at h
  have hseg : (l.drop p).take (1 + s.w + D.length) = l.getD p 0 :: ((l.drop (p + 1)).take s.w ++ D) := by
    rw [seg_app, seg_app, hDl, show p + (1 + s.w) = p + 1 + s.w by omega, ← hD]
    have e1 : (l.drop p).take 1 = [l.getD p 0] := by
      have e2 : l.getD p 0 = l[p] := by simp [List.getD, hp]
      rw [List.drop_eq_getElem_cons hp, e2]; rfl
    rw [e1]
    simp
  have hsub : p + 1 + s.w + (s.al + s.ea * c) - p = 1 + s.w + D.length := by omega
  rw [hsub, hseg] at h
  by_cases h4 : 0 < s.al + s.ea * c ∧ putO (rawT s.tag D) ≠ l.getD p 0 :: ((l.drop (p + 1)).take s.w ++ D)
  · rw [if_pos h4] at h; cases h
  refine ⟨s, (l.drop (p + 1)).take s.w, D, c, hs, hp, hn, hd, by simp; omega, hc.symm, hlo, hhi, hDl, by omega, fun h5 => ?_, hseg, ?_⟩
  · rw [hDl] at h5
    by_cases h6 : putO (rawT s.tag D) = l.getD p 0 :: ((l.drop (p + 1)).take s.w ++ D)
    · exact h6
    · exact absurd ⟨h5, h6⟩ h4
  · unfold bgn
    rw [hfs]
    dsimp only
    rw [if_neg (fun h => h rfl), hms]
    dsimp only
    rw [if_neg (fun h => h rfl)]
    unfold bgn.bgnD
    rw [if_neg h3, ← hD, hsub, hseg, if_neg h4, show p + 1 + s.w + (s.al + s.ea * c) = p + (1 + s.w + D.length) by omega]

theorem putO_ok {t : Tm} {b : UInt8} {r : List UInt8} (h : putO t = b :: r) : t.ok = true ∧ putT t = b :: r := by
  unfold putO at h
  by_cases hk : t.ok = true
  · rw [if_pos hk] at h; exact ⟨hk, h⟩
  · rw [if_neg hk] at h; cases h
theorem okD_leaf {t : Tm} (h : t.ok = true) (hk : t.kids = []) {d : Nat} (hd : d ≤ 60) : okD t d := by
  have h1 := ((ok_iff t).1 h).1
  refine (okD_eq t d).2 ⟨hd, h1.alone, ?_⟩
  by_cases h4 : t.kind = 4
  · obtain ⟨a, b, h2, -⟩ := (by have := ((okD_eq t 1).1 h1).2.2; rw [if_pos h4] at this; exact this : ∃ a b, t.kids = [a, b] ∧ _ ∧ _)
    rw [hk] at h2; cases h2
  · rw [if_neg h4, hk]
    exact fun k hk => absurd hk (by simp)
theorem high_four {W : List UInt8} (h : W.length = 4) : W = four (highL W) := by
  match W, h with
  | [a, b, c, d], _ =>
    have e : highL [a, b, c, d] = cntL [a, b, c, d] := by
      simp only [highL, cntL, List.foldl_cons, List.foldl_nil, List.getD_cons_zero, List.getD_cons_succ]
      omega
    rw [e]
    exact (four_cnt (l := [a, b, c, d]) (Nat.le_refl 4)).symm
theorem high_one {W : List UInt8} (h : W.length = 1) : W = [UInt8.ofNat (highL W)] := by
  match W, h with
  | [a], _ =>
    have e : highL [a] = a.toNat := by simp [highL]
    rw [e]; simp
/-- A term was read there, and stands there. -/
def Bk (l : List UInt8) (d p n : Nat) (r : Rs) : Prop := okD r.t d ∧ n + r.t.nodes = r.n ∧ p ≤ r.p ∧ r.p ≤ l.length ∧ (l.drop p).take (r.p - p) = putT r.t
def BkK (l : List UInt8) (d p n c : Nat) (r : Rk) : Prop := r.K.length = c ∧ (∀ t ∈ r.K, okD t d) ∧ n + nodesL r.K = r.n ∧ p ≤ r.p ∧ r.p ≤ l.length ∧ (l.drop p).take (r.p - p) = putK r.K
theorem seg_two {l : List UInt8} {p q r : Nat} (h1 : p ≤ q) (h2 : q ≤ r) : (l.drop p).take (r - p) = (l.drop p).take (q - p) ++ (l.drop q).take (r - q) := by
  have := seg_app l p (q - p) (r - q)
  rw [show q - p + (r - q) = r - p by omega, show p + (q - p) = q by omega] at this
  exact this
theorem rdK_back {l : List UInt8} {d : Nat} {G : Nat → Nat → Rs} (hG : ∀ p n, n ≤ 2000 → p ≤ l.length → (G p n).e = 0 → (G p n).n ≤ 2000 ∧ Bk l d p n (G p n)) : ∀ (c p n : Nat), n ≤ 2000 → p ≤ l.length → (rdK G c p n).e = 0 → (rdK G c p n).n ≤ 2000 ∧ BkK l d p n c (rdK G c p n)
  | 0, p, n, hn, hp, _ => ⟨hn, rfl, fun t ht => absurd ht (by simp [rdK]), by simp [rdK, nodesL], Nat.le_refl _, hp, by simp [rdK, putK]⟩
  | c + 1, p, n, hn, hp, h => by
    have e0 : rdK G (c + 1) p n = consR (G p n) (rdK G c) := rfl
    rw [e0] at h ⊢
    by_cases h1 : (G p n).e = 0
    · obtain ⟨g1, g2, g3, g4, g5, g6⟩ := hG p n hn hp h1
      rw [consR_0 h1] at h ⊢
      rw [prep_e] at h
      obtain ⟨k0, k1, k2, k3, k4, k5, k6⟩ := rdK_back hG c _ _ g1 g5 h
      rw [prep_0 h]
      refine ⟨k0, by simp [k1], fun t ht => ?_, ?_, by simp only; omega, k5, ?_⟩
      · simp only [List.cons_append, List.nil_append, List.mem_cons] at ht
        rcases ht with rfl | ht
        · exact g2
        · exact k2 t ht
      · simp only [List.cons_append, List.nil_append, nodesL]
        omega
      · simp only [List.cons_append, List.nil_append]
        rw [putK_cons, seg_two g4 k4, g6, k6]
    · rw [consR_bad h1] at h
      exact absurd h h1
theorem leaf_back {l : List UInt8} {T : Nat → Nat → Nat → Rs} {t : Tm} {p n d m : Nat} (hok : t.ok = true) (hk : t.kids = []) (hs : t.nodes = 1) (hn : n < 2000) (hd : d ≤ 60) (hl : p + m ≤ l.length) (hb : (l.drop p).take m = putT t) : (opnR T ⟨0, t, 0, p + m, n + 1⟩ d).n ≤ 2000 ∧ Bk l d p n (opnR T ⟨0, t, 0, p + m, n + 1⟩ d) := by
  unfold opnR
  rw [if_neg (fun h => h rfl), if_pos rfl]
  refine ⟨by simp only; omega, okD_leaf hok hk hd, by simp only; omega, by simp only; omega, hl, ?_⟩
  simp only
  rw [Nat.add_sub_cancel_left, hb]
theorem list_back {l W : List UInt8} {T : Nat → Nat → Nat → Rs} {p n d c : Nat} (ih : ∀ d p n, n ≤ 2000 → p ≤ l.length → (T p n d).e = 0 → (T p n d).n ≤ 2000 ∧ Bk l d p n (T p n d)) (hW : W.length = 4) (hc : highL W = c) (h1 : 1 ≤ c) (h2 : c ≤ 2000 - n) (hn : n < 2000) (hl : p + 5 ≤ l.length) (hb : (l.drop p).take 5 = 108 :: W)
    (h : (opnR T ⟨0, .mk 4 false [] ⟨#[]⟩ 0 [], c + 1, p + 5, n + c⟩ d).e = 0) : (opnR T ⟨0, .mk 4 false [] ⟨#[]⟩ 0 [], c + 1, p + 5, n + c⟩ d).n ≤ 2000 ∧ Bk l d p n (opnR T ⟨0, .mk 4 false [] ⟨#[]⟩ 0 [], c + 1, p + 5, n + c⟩ d) := by
  unfold opnR at h ⊢
  rw [if_neg (fun h => h rfl), if_neg (show ¬ c + 1 = 0 by omega), if_neg (show ¬ (4 : Int) = 5 by decide)] at h ⊢
  simp only [Nat.add_sub_cancel] at h ⊢
  unfold endL at h ⊢
  by_cases h3 : (rdK (fun p n => T p n (d + 1)) c (p + 5) (n + c)).e ≠ 0
  · rw [if_pos h3] at h; exact absurd h h3
  rw [if_neg h3] at h ⊢
  obtain ⟨k0, k1, k2, k3, k4, k5, k6⟩ := rdK_back (ih (d + 1)) c (p + 5) (n + c) (by omega) hl (by omega)
  generalize rdK (fun p n => T p n (d + 1)) c (p + 5) (n + c) = rk at *
  obtain ⟨t1, t2, t3⟩ := tailL_0 h
  rw [t3]
  obtain ⟨q0, q1, q2, q3, q4, q5⟩ := ih d rk.p rk.n k0 k5 t1
  have t2' : ¬ (T rk.p rk.n d).t.kind = 4 := t2
  refine ⟨q0, (okD_list _ d rk.K).2 ⟨k2, q1⟩, ?_, ?_, q4, ?_⟩
  · simp only; rw [nodes_list]; omega
  · simp only; omega
  · simp only
    rw [putT_list _ t2' rk.K (by omega), putK_app, putK_one, ← k6, ← q5, seg_two (q := p + 5) (by omega) (by omega), seg_two (p := p + 5) k4 q3, Nat.add_sub_cancel_left, hb, k1, ← hc, ← high_four hW]
    simp
theorem tup_ok {K : List Tm} {c d : Nat} (hd : d ≤ 60) (hc : c ≤ 40) (h1 : K.length = c) (h2 : ∀ t ∈ K, okD t (d + 1)) : okD (tupT K) d := by
  refine (okD_eq _ _).2 ⟨hd, ?_, ?_⟩
  · show aloneK 5 false [] ⟨#[]⟩ 0 K.length = true
    unfold aloneK
    rw [if_neg (by decide), if_neg (by decide), if_neg (by decide), if_neg (by decide), if_pos rfl, Bool.and_eq_true]
    exact ⟨by simp; omega, by decide +kernel⟩
  · have e : (tupT K).kind = 5 := rfl
    rw [e, if_neg (show ¬ (5 : Int) = 4 by decide)]
    exact h2
theorem tup_back {l W : List UInt8} {T : Nat → Nat → Nat → Rs} {p n d c : Nat} (ih : ∀ d p n, n ≤ 2000 → p ≤ l.length → (T p n d).e = 0 → (T p n d).n ≤ 2000 ∧ Bk l d p n (T p n d)) (hW : W.length = 1) (hc : highL W = c) (h2 : c ≤ 40) (hn : n < 2000) (hd : d ≤ 60) (hl : p + 2 ≤ l.length) (hb : (l.drop p).take 2 = 104 :: W)
    (h : (opnR T ⟨0, .mk 5 false [] ⟨#[]⟩ 0 [], c, p + 2, n + 1⟩ d).e = 0) : (opnR T ⟨0, .mk 5 false [] ⟨#[]⟩ 0 [], c, p + 2, n + 1⟩ d).n ≤ 2000 ∧ Bk l d p n (opnR T ⟨0, .mk 5 false [] ⟨#[]⟩ 0 [], c, p + 2, n + 1⟩ d) := by
  unfold opnR at h ⊢
  rw [if_neg (fun h => h rfl)] at h ⊢
  by_cases hc0 : c = 0
  · rw [if_pos hc0]
    refine ⟨by simp only; omega, tup_ok (K := []) hd (Nat.zero_le 40) rfl (fun t ht => absurd ht (by simp)), by simp [Tm.nodes_mk, nodesL], by simp only; omega, hl, ?_⟩
    simp only
    rw [Nat.add_sub_cancel_left, hb, putT_5 rfl, high_one hW, hc, hc0]
    rfl
  rw [if_neg hc0, if_pos rfl] at h ⊢
  unfold endT at h ⊢
  by_cases h3 : (rdK (fun p n => T p n (d + 1)) c (p + 2) (n + 1)).e ≠ 0
  · rw [if_pos h3] at h; exact absurd h h3
  rw [if_neg h3] at h ⊢
  obtain ⟨k0, k1, k2, k3, k4, k5, k6⟩ := rdK_back (ih (d + 1)) c (p + 2) (n + 1) (by omega) hl (by omega)
  generalize rdK (fun p n => T p n (d + 1)) c (p + 2) (n + 1) = rk at *
  refine ⟨k0, tup_ok hd h2 k1 k2, ?_, ?_, k5, ?_⟩
  · simp only [tupT, Tm.nodes_mk]; omega
  · simp only; omega
  · simp only
    rw [putT_5 (t := tupT rk.K) rfl]
    show _ = 104 :: UInt8.ofNat rk.K.length :: putK rk.K
    rw [← k6, seg_two (q := p + 2) (by omega) k4, Nat.add_sub_cancel_left, hb, high_one hW, hc, k1]
    simp
theorem nil_ok : tmNil.ok = true := by
  simp only [tmNil, Tm.ok, chk_mk, chkL, chkC, chkH]
  decide +kernel
theorem bin0_ok : (Tm.mk 6 false [] ⟨#[]⟩ 0 []).ok = true := by
  simp only [Tm.ok, chk_mk, chkL, chkC, chkH]
  decide +kernel
theorem raw_leaf {l W D : List UInt8} {x : UInt8} {p m : Nat} {t : Tm} (hput : 0 < D.length → putO t = x :: (W ++ D)) (hD : 0 < D.length) (hseg : (l.drop p).take m = x :: (W ++ D)) : t.ok = true ∧ (l.drop p).take m = putT t := by
  obtain ⟨h1, h2⟩ := putO_ok (hput hD)
  exact ⟨h1, by rw [hseg, h2]⟩
theorem rdT_back (l : List UInt8) : ∀ (f p n d : Nat), n ≤ 2000 → p ≤ l.length → (rdT l f p n d).e = 0 → (rdT l f p n d).n ≤ 2000 ∧ Bk l d p n (rdT l f p n d)
  | 0, p, n, d, _, _, h => by cases h
  | f + 1, p, n, d, hn, hp, h => by
    rw [rdT_succ] at h ⊢
    have ih := fun d p n => rdT_back l f p n d
    by_cases h0 : (bgn l p n d).e = 0
    · obtain ⟨s, W, D, c, hs, hpl, hn2, hd, hW, hc, hlo, hhi, hD, hlen, hput, hseg, hb⟩ := bgn_inv h0
      obtain ⟨x, hx⟩ : ∃ x, x = l.getD p 0 := ⟨_, rfl⟩
      rw [← hx] at hs hput hseg
      have htag : s.tag = x.toNat := (sh_list hs).2
      have hm : s ∈ shT := List.mem_of_find?_eq_some hs
      have hxx : ∀ (a : Nat), s.tag = a → x = UInt8.ofNat a := fun a ha => by rw [← ha, htag]; simp
      simp only [shT, List.mem_cons, List.not_mem_nil, or_false] at hm
      rcases hm with rfl | rfl | rfl | rfl | rfl | rfl | rfl | rfl
      · have hb2 : bgn l p n d = ⟨0, rawT 97 D, 0, p + (1 + 0 + D.length), n + 1⟩ := hb
        have hD2 : D.length = 1 + 0 * c := hD
        obtain ⟨o1, o2⟩ := raw_leaf hput (by omega) hseg
        rw [hb2]; exact leaf_back o1 rfl (by simp [rawT, numT, Tm.nodes_mk, nodesL]) hn2 hd hlen o2
      · have hb2 : bgn l p n d = ⟨0, rawT 98 D, 0, p + (1 + 0 + D.length), n + 1⟩ := hb
        have hD2 : D.length = 4 + 0 * c := hD
        obtain ⟨o1, o2⟩ := raw_leaf hput (by omega) hseg
        rw [hb2]; exact leaf_back o1 rfl (by simp [rawT, numT, Tm.nodes_mk, nodesL]) hn2 hd hlen o2
      · have hb2 : bgn l p n d = ⟨0, rawT 110 D, 0, p + (1 + 1 + D.length), n + 1⟩ := hb
        have hD2 : D.length = 1 + 1 * c := hD
        obtain ⟨o1, o2⟩ := raw_leaf hput (by omega) hseg
        rw [hb2]; exact leaf_back o1 rfl (by simp [rawT, Tm.nodes_mk, nodesL]) hn2 hd hlen o2
      · have hb2 : bgn l p n d = ⟨0, rawT 119 D, 0, p + (1 + 1 + D.length), n + 1⟩ := hb
        have hD2 : D.length = 0 + 1 * c := hD
        have hl2 : 1 ≤ c := hlo
        obtain ⟨o1, o2⟩ := raw_leaf hput (by omega) hseg
        rw [hb2]; exact leaf_back o1 rfl (by simp [rawT, Tm.nodes_mk, nodesL]) hn2 hd hlen o2
      · have hb2 : bgn l p n d = ⟨0, tmNil, 0, p + (1 + 0 + D.length), n + 1⟩ := hb
        have hD2 : D.length = 0 + 0 * c := hD
        have hW2 : W.length = 0 := hW
        obtain rfl : D = [] := List.eq_nil_of_length_eq_zero (by omega)
        obtain rfl : W = [] := List.eq_nil_of_length_eq_zero hW2
        rw [hb2]; exact leaf_back nil_ok rfl (by simp [tmNil, Tm.nodes_mk, nodesL]) hn2 hd hlen (by rw [putT_3 (t := tmNil) rfl]; rw [hxx 106 rfl] at hseg; exact hseg)
      · have hD2 : D.length = 0 + 0 * c := hD
        obtain rfl : D = [] := List.eq_nil_of_length_eq_zero (by omega)
        have hb2 : bgn l p n d = ⟨0, .mk 4 false [] ⟨#[]⟩ 0 [], c + 1, p + 5, n + c⟩ := hb
        rw [hb2] at h ⊢
        exact list_back ih hW hc hlo hhi hn2 hlen (by rw [hxx 108 rfl, List.append_nil] at hseg; exact hseg) h
      · have hD2 : D.length = 0 + 0 * c := hD
        obtain rfl : D = [] := List.eq_nil_of_length_eq_zero (by omega)
        have hb2 : bgn l p n d = ⟨0, .mk 5 false [] ⟨#[]⟩ 0 [], c, p + 2, n + 1⟩ := hb
        rw [hb2] at h ⊢
        exact tup_back ih hW hc hhi hn2 hd hlen (by rw [hxx 104 rfl, List.append_nil] at hseg; exact hseg) h
      · have hD2 : D.length = 0 + 1 * c := hD
        have hb2 : bgn l p n d = ⟨0, rawT 109 D, 0, p + (1 + 4 + D.length), n + 1⟩ := hb
        have hot : (rawT 109 D).ok = true ∧ (l.drop p).take (1 + 4 + D.length) = putT (rawT 109 D) := by
          by_cases hz : 0 < D.length
          · exact raw_leaf hput hz hseg
          · obtain rfl : D = [] := List.eq_nil_of_length_eq_zero (by omega)
            have hc0 : c = 0 := by simp only [List.length_nil] at hD2; omega
            have hr : rawT 109 [] = .mk 6 false [] ⟨#[]⟩ 0 [] := rfl
            rw [hr]
            refine ⟨bin0_ok, ?_⟩
            rw [putT_6 (t := Tm.mk 6 false [] ⟨#[]⟩ 0 []) rfl]
            rw [hxx 109 rfl, List.append_nil, high_four hW, hc, hc0] at hseg
            exact hseg
        rw [hb2]; exact leaf_back hot.1 rfl (by simp [rawT, Tm.nodes_mk, nodesL]) hn2 hd hlen hot.2
    · unfold opnR at h
      rw [if_pos h0] at h
      exact absurd h h0
/-- What is got may be, and is put byte for byte. -/
theorem RT_back {l : List UInt8} (h : (RT l 0 0 1).e = 0) : (RT l 0 0 1).t.ok = true ∧ (RT l 0 0 1).p ≤ l.length ∧ l.take (RT l 0 0 1).p = putT (RT l 0 0 1).t := by
  have hb : (RT l 0 0 1).n ≤ 2000 ∧ Bk l 1 0 0 (RT l 0 0 1) := rdT_back l 2001 0 0 1 (by omega) (Nat.zero_le _) h
  obtain ⟨h0, h1, h2, h3, h4, h5⟩ := hb
  refine ⟨(ok_iff _).2 ⟨h1, by omega⟩, h4, ?_⟩
  rw [List.drop_zero, Nat.sub_zero] at h5
  exact h5
/-- What may be wrong. -/
def E34 (e : Nat) : Prop := e = 0 ∨ e = 3 ∨ e = 4
theorem bgn_errs (l : List UInt8) (p n d : Nat) : E34 (bgn l p n d).e := by
  unfold bgn
  by_cases h1 : (fstR l p n d).1 ≠ 0
  · rw [if_pos h1]
    show E34 (fstR l p n d).1
    unfold fstR tagR
    repeat' split
    all_goals first | exact .inl rfl | exact .inr (.inl rfl) | exact .inr (.inr rfl)
  rw [if_neg h1]
  by_cases h2 : (manR l (p + 1) n (fstR l p n d).2).1 ≠ 0
  · rw [if_pos h2]
    show E34 (manR l (p + 1) n (fstR l p n d).2).1
    unfold manR
    repeat' split
    all_goals first | exact .inl rfl | exact .inr (.inl rfl) | exact .inr (.inr rfl)
  rw [if_neg h2]
  unfold bgn.bgnD
  repeat' split
  all_goals first | exact .inl rfl | exact .inr (.inl rfl) | exact .inr (.inr rfl)
theorem rdK_errs {G : Nat → Nat → Rs} (hG : ∀ p n, E34 (G p n).e) : ∀ c p n, E34 (rdK G c p n).e
  | 0, p, n => .inl rfl
  | c + 1, p, n => by
    show E34 (consR (G p n) (rdK G c)).e
    by_cases h : (G p n).e = 0
    · rw [consR_0 h, prep_e]; exact rdK_errs hG c _ _
    · rw [consR_bad h]; exact hG p n
theorem rdT_errs (l : List UInt8) : ∀ f p n d, E34 (rdT l f p n d).e
  | 0, p, n, d => .inr (.inr rfl)
  | f + 1, p, n, d => by
    rw [rdT_succ]
    have ih := fun d p n => rdT_errs l f p n d
    unfold opnR
    by_cases h0 : (bgn l p n d).e ≠ 0
    · rw [if_pos h0]; exact bgn_errs l p n d
    rw [if_neg h0]
    by_cases h1 : (bgn l p n d).want = 0
    · rw [if_pos h1]; exact .inl rfl
    rw [if_neg h1]
    by_cases h2 : (bgn l p n d).t.kind = 5
    · rw [if_pos h2]
      unfold endT
      split
      · exact rdK_errs (ih (d + 1)) _ _ _
      · exact .inl rfl
    · rw [if_neg h2]
      unfold endL
      split
      · exact rdK_errs (ih (d + 1)) _ _ _
      · unfold tailL
        split
        · exact ih d _ _
        · split
          · exact .inr (.inr rfl)
          · exact .inl rfl
theorem RT_errs (l : List UInt8) (p n d : Nat) : E34 (RT l p n d).e := rdT_errs l 2001 p n d
end Go.Proofs.YtbmondbicnfcpaaDoor
