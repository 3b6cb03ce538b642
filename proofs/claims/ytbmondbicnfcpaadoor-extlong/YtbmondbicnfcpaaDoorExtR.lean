
/-
  ext: what is read, plain: a term, and the stack of those that are open.
-/
import Derived.Test.YtbmondbicnfcpaaDoorExtQ
namespace Go.Proofs.YtbmondbicnfcpaaDoor
open Go.RowKit
set_option linter.unusedVariables false
set_option linter.unusedSimpArgs false

/-- A term that was read, or what is wrong; the place behind; how many terms there were. -/
structure Rs where
  mk ::
  e : Nat
  t : Tm
  p : Nat
  n : Nat
def Rs.bad (e : Nat) : Rs := ⟨e, tmZ, 0, 0⟩
structure Rk where
  mk ::
  e : Nat
  K : List Tm
  p : Nat
  n : Nat
def Rk.bad (e : Nat) : Rk := ⟨e, [], 0, 0⟩
def prep (K : List Tm) (r : Rk) : Rk := if r.e ≠ 0 then Rk.bad r.e else ⟨0, K ++ r.K, r.p, r.n⟩
def consR (r : Rs) (k : Nat → Nat → Rk) : Rk := if r.e ≠ 0 then Rk.bad r.e else prep [r.t] (k r.p r.n)
def rdK (G : Nat → Nat → Rs) : Nat → Nat → Nat → Rk
  | 0, p, n => ⟨0, [], p, n⟩
  | c + 1, p, n => consR (G p n) (rdK G c)
def tupT (K : List Tm) : Tm := .mk 5 false [] ⟨#[]⟩ 0 K
def endT (r : Rk) : Rs := if r.e ≠ 0 then Rs.bad r.e else ⟨0, tupT r.K, r.p, r.n⟩
def tailL (K : List Tm) (q : Rs) : Rs := if q.e ≠ 0 then Rs.bad q.e else if q.t.kind = 4 then Rs.bad 4 else ⟨0, listT K q.t, q.p, q.n⟩
def endL (r : Rk) (T : Nat → Nat → Rs) : Rs := if r.e ≠ 0 then Rs.bad r.e else tailL r.K (T r.p r.n)
def opnR (T : Nat → Nat → Nat → Rs) (b : Bg) (d : Nat) : Rs :=
  if b.e ≠ 0 then Rs.bad b.e else if b.want = 0 then ⟨0, b.t, b.p, b.n⟩ else if b.t.kind = 5 then endT (rdK (fun p n => T p n (d + 1)) b.want b.p b.n) else endL (rdK (fun p n => T p n (d + 1)) (b.want - 1) b.p b.n) (fun p n => T p n d)
def rdT (l : List UInt8) : Nat → Nat → Nat → Nat → Rs
  | 0, _, _, _ => Rs.bad 4
  | f + 1, p, n, d => opnR (rdT l f) (bgn l p n d) d
/-- The term at a place, where so many came ahead of it and it lies so deep. -/
def RT (l : List UInt8) (p n d : Nat) : Rs := rdT l (2000 + 1) p n d
theorem rdT_succ (l : List UInt8) (f p n d : Nat) : rdT l (f + 1) p n d = opnR (rdT l f) (bgn l p n d) d := rfl

theorem sh_list {t : Nat} {s : Sh} (h : shF t = some s) : (s.tag = 108 → s.lo = 1) ∧ s.tag = t := by
  have h1 := List.find?_some h
  have hm : s ∈ shT := List.mem_of_find?_eq_some h
  refine ⟨?_, by simpa using h1⟩
  simp only [shT, List.mem_cons, List.not_mem_nil, or_false] at hm
  rcases hm with rfl | rfl | rfl | rfl | rfl | rfl | rfl | rfl <;> decide
/-- What holds of what begins. -/
theorem bgn_ok {l : List UInt8} {p n d : Nat} (h : (bgn l p n d).e = 0) : n < (bgn l p n d).n ∧ (bgn l p n d).n ≤ 2000 ∧ p < (bgn l p n d).p ∧ (bgn l p n d).p ≤ l.length ∧ d ≤ 60 ∧ (bgn l p n d).want ≤ 2001 ∧ (0 < (bgn l p n d).want → ((bgn l p n d).t.kind = 5 ∨ ((bgn l p n d).t.kind = 4 ∧ 2 ≤ (bgn l p n d).want))) := by
  by_cases h1 : (fstR l p n d).1 ≠ 0
  · unfold bgn at h; rw [if_pos h1] at h; exact absurd h h1
  · by_cases h2 : (manR l (p + 1) n (fstR l p n d).2).1 ≠ 0
    · unfold bgn at h; rw [if_neg h1, if_pos h2] at h; exact absurd h h2
    · have e1 : bgn l p n d = bgn.bgnD l p n (fstR l p n d).2 (manR l (p + 1) n (fstR l p n d).2).2 (p + 1 + (fstR l p n d).2.w) ((fstR l p n d).2.al + (fstR l p n d).2.ea * (manR l (p + 1) n (fstR l p n d).2).2) := by unfold bgn; rw [if_neg h1, if_neg h2]
      obtain ⟨hso, hp1, hn1, hd1, hsf⟩ := fst_ok (l := l) (p := p) (n := n) (d := d) (by omega)
      obtain ⟨so1, so2, so3, so4, so5, so6, so7, so8⟩ := hso
      obtain ⟨hm1, hm2, hm3⟩ := man_ok (l := l) (p := p + 1) (n := n) (s := (fstR l p n d).2) (by omega)
      obtain ⟨hlo, -⟩ := sh_list hsf
      rw [e1] at h ⊢
      generalize (fstR l p n d).2 = s at *
      generalize (manR l (p + 1) n s).2 = c at *
      generalize s.al + s.ea * c = m at *
      unfold bgn.bgnD at h ⊢
      by_cases h3 : l.length < p + 1 + s.w + m
      · rw [if_pos h3] at h; cases h
      · rw [if_neg h3] at h ⊢
        by_cases h4 : 0 < m ∧ putO (rawT s.tag ((l.drop (p + 1 + s.w)).take m)) ≠ (l.drop p).take (p + 1 + s.w + m - p)
        · rw [if_pos h4] at h; cases h
        · rw [if_neg h4]
          dsimp only
          by_cases h108 : s.tag = 108
          · have e : rawT s.tag ((l.drop (p + 1 + s.w)).take m) = .mk 4 false [] ⟨#[]⟩ 0 [] := by rw [h108]; rfl
            have h5 := so4 h108
            have h6 := hlo h108
            rw [if_pos h108] at hm3
            rw [if_pos h108, if_pos h108, e]
            exact ⟨by omega, by omega, by omega, by omega, hd1, by omega, fun _ => .inr ⟨rfl, by omega⟩⟩
          · rw [if_neg h108] at hm3
            rw [if_neg h108, if_neg h108]
            by_cases h104 : s.tag = 104
            · have e : rawT s.tag ((l.drop (p + 1 + s.w)).take m) = .mk 5 false [] ⟨#[]⟩ 0 [] := by rw [h104]; rfl
              rw [if_pos h104, e]
              exact ⟨by omega, by omega, by omega, by omega, hd1, by omega, fun _ => .inl rfl⟩
            · rw [if_neg h104]
              exact ⟨by omega, by omega, by omega, by omega, hd1, by omega, fun h => absurd h (by omega)⟩

/-- It goes on. -/
def Onw (L : Nat) (G : Nat → Nat → Rs) : Prop := ∀ p n, (G p n).e = 0 → n ≤ (G p n).n ∧ (G p n).n ≤ 2000 ∧ (G p n).p ≤ L
theorem prep_e (K : List Tm) (r : Rk) : (prep K r).e = r.e := by
  unfold prep
  by_cases h : r.e = 0
  · rw [if_neg (fun h2 => h2 h)]; exact h.symm
  · rw [if_pos h]; rfl
theorem prep_0 {K : List Tm} {r : Rk} (h : r.e = 0) : prep K r = ⟨0, K ++ r.K, r.p, r.n⟩ := by unfold prep; rw [if_neg (fun h2 => h2 h)]
theorem prep_bad {K : List Tm} {r : Rk} (h : r.e ≠ 0) : prep K r = Rk.bad r.e := by unfold prep; rw [if_pos h]
theorem prep_prep (K M : List Tm) (r : Rk) : prep K (prep M r) = prep (K ++ M) r := by
  by_cases h : r.e = 0
  · rw [prep_0 h, prep_0 h, prep_0 rfl]; simp
  · rw [prep_bad h, prep_bad h, prep_bad (r := Rk.bad r.e) h]; rfl
theorem consR_0 {r : Rs} {k : Nat → Nat → Rk} (h : r.e = 0) : consR r k = prep [r.t] (k r.p r.n) := by unfold consR; rw [if_neg (fun h2 => h2 h)]
theorem consR_bad {r : Rs} {k : Nat → Nat → Rk} (h : r.e ≠ 0) : consR r k = Rk.bad r.e := by unfold consR; rw [if_pos h]
theorem rdK_on {L : Nat} {G : Nat → Nat → Rs} (hG : Onw L G) : ∀ (c p n : Nat), n ≤ 2000 → p ≤ L → (rdK G c p n).e = 0 → n ≤ (rdK G c p n).n ∧ (rdK G c p n).n ≤ 2000 ∧ (rdK G c p n).p ≤ L
  | 0, p, n, hn, hp, _ => ⟨Nat.le_refl _, hn, hp⟩
  | c + 1, p, n, hn, hp, h => by
    by_cases h1 : (G p n).e = 0
    · obtain ⟨h2, h3, h4⟩ := hG p n h1
      have e : rdK G (c + 1) p n = prep [(G p n).t] (rdK G c (G p n).p (G p n).n) := consR_0 h1
      rw [e] at h ⊢
      rw [prep_e] at h
      obtain ⟨h5, h6, h7⟩ := rdK_on hG c _ _ h3 h4 h
      rw [prep_0 h]
      exact ⟨by simp only; omega, h6, h7⟩
    · have e : rdK G (c + 1) p n = Rk.bad (G p n).e := consR_bad h1
      rw [e] at h
      exact absurd h h1
theorem rdK_eq {L : Nat} {G G' : Nat → Nat → Rs} (hG : Onw L G) : ∀ (c p n : Nat), n ≤ 2000 → (∀ p m, n ≤ m → m ≤ 2000 → G p m = G' p m) → rdK G c p n = rdK G' c p n
  | 0, p, n, _, _ => rfl
  | c + 1, p, n, hn, he => by
    show consR (G p n) (rdK G c) = consR (G' p n) (rdK G' c)
    rw [← he p n (Nat.le_refl _) hn]
    by_cases h1 : (G p n).e = 0
    · obtain ⟨h2, h3, h4⟩ := hG p n h1
      rw [consR_0 h1, consR_0 h1, rdK_eq hG c _ _ h3 (fun p m hm hm2 => he p m (by omega) hm2)]
    · rw [consR_bad h1, consR_bad h1]
theorem tailL_0 {K : List Tm} {q : Rs} (h : (tailL K q).e = 0) : q.e = 0 ∧ ¬ q.t.kind = 4 ∧ tailL K q = ⟨0, listT K q.t, q.p, q.n⟩ := by
  unfold tailL at h ⊢
  by_cases h1 : q.e ≠ 0
  · rw [if_pos h1] at h; exact absurd h h1
  · rw [if_neg h1] at h ⊢
    by_cases h2 : q.t.kind = 4
    · rw [if_pos h2] at h; cases h
    · rw [if_neg h2]; exact ⟨by omega, h2, rfl⟩
theorem opnR_on {l : List UInt8} {T : Nat → Nat → Nat → Rs} (hT : ∀ d, Onw l.length (fun p n => T p n d)) {p n d : Nat} (h : (opnR T (bgn l p n d) d).e = 0) : n < (opnR T (bgn l p n d) d).n ∧ (opnR T (bgn l p n d) d).n ≤ 2000 ∧ (opnR T (bgn l p n d) d).p ≤ l.length := by
  by_cases h0 : (bgn l p n d).e = 0
  · obtain ⟨b1, b2, b3, b4, b5, b6, b7⟩ := bgn_ok h0
    generalize bgn l p n d = b at *
    unfold opnR at h ⊢
    rw [if_neg (fun h2 => h2 h0)] at h ⊢
    by_cases h1 : b.want = 0
    · rw [if_pos h1]; exact ⟨b1, b2, b4⟩
    · rw [if_neg h1] at h ⊢
      by_cases h2 : b.t.kind = 5
      · rw [if_pos h2] at h ⊢
        unfold endT at h ⊢
        by_cases h3 : (rdK (fun p n => T p n (d + 1)) b.want b.p b.n).e ≠ 0
        · rw [if_pos h3] at h; exact absurd h h3
        · rw [if_neg h3]
          obtain ⟨h5, h6, h7⟩ := rdK_on (hT (d + 1)) b.want b.p b.n b2 b4 (by omega)
          exact ⟨by simp only; omega, h6, h7⟩
      · rw [if_neg h2] at h ⊢
        unfold endL at h ⊢
        by_cases h3 : (rdK (fun p n => T p n (d + 1)) (b.want - 1) b.p b.n).e ≠ 0
        · rw [if_pos h3] at h; exact absurd h h3
        · rw [if_neg h3] at h ⊢
          obtain ⟨h5, h6, h7⟩ := rdK_on (hT (d + 1)) (b.want - 1) b.p b.n b2 b4 (by omega)
          obtain ⟨h8, h9, h10⟩ := tailL_0 h
          rw [h10]
          obtain ⟨h11, h12, h13⟩ := hT d _ _ h8
          exact ⟨by simp only at h11 ⊢; omega, h12, h13⟩
  · unfold opnR at h
    rw [if_pos h0] at h
    exact absurd h h0
theorem rdT_on (l : List UInt8) : ∀ (f d : Nat), Onw l.length (fun p n => rdT l f p n d)
  | 0, d => fun p n h => by cases h
  | f + 1, d => fun p n h => by
    obtain ⟨h1, h2, h3⟩ := opnR_on (T := rdT l f) (rdT_on l f) h
    exact ⟨Nat.le_of_lt h1, h2, h3⟩
theorem opnR_eq {l : List UInt8} {T T' : Nat → Nat → Nat → Rs} (hT : ∀ d, Onw l.length (fun p n => T p n d)) {p n d : Nat} (he : ∀ p m d, n + 1 ≤ m → m ≤ 2000 → T p m d = T' p m d) : opnR T (bgn l p n d) d = opnR T' (bgn l p n d) d := by
  by_cases h0 : (bgn l p n d).e = 0
  · obtain ⟨b1, b2, b3, b4, b5, b6, b7⟩ := bgn_ok h0
    generalize bgn l p n d = b at *
    unfold opnR
    rw [if_neg (show ¬ b.e ≠ 0 from fun h2 => h2 h0), if_neg (show ¬ b.e ≠ 0 from fun h2 => h2 h0)]
    by_cases h1 : b.want = 0
    · rw [if_pos h1, if_pos h1]
    · rw [if_neg h1, if_neg h1]
      by_cases h2 : b.t.kind = 5
      · rw [if_pos h2, if_pos h2, rdK_eq (hT (d + 1)) b.want b.p b.n b2 (fun p m hm hm2 => he p m (d + 1) (by omega) hm2)]
      · rw [if_neg h2, if_neg h2, rdK_eq (hT (d + 1)) (b.want - 1) b.p b.n b2 (fun p m hm hm2 => he p m (d + 1) (by omega) hm2)]
        have hk := rdK_eq (hT (d + 1)) (b.want - 1) b.p b.n b2 (fun p m hm hm2 => he p m (d + 1) (by omega) hm2)
        have ho := rdK_on (hT (d + 1)) (b.want - 1) b.p b.n b2 b4
        rw [hk] at ho
        unfold endL
        by_cases h3 : (rdK (fun p n => T' p n (d + 1)) (b.want - 1) b.p b.n).e ≠ 0
        · rw [if_pos h3, if_pos h3]
        · rw [if_neg h3, if_neg h3]
          obtain ⟨h5, h6, h7⟩ := ho (by omega)
          exact congrArg (tailL _) (he _ _ d (by omega) h6)
  · unfold opnR
    rw [if_pos h0, if_pos h0]
theorem rdT_eq (l : List UInt8) : ∀ (f f' p n d : Nat), n ≤ 2000 → 2001 ≤ n + f → 2001 ≤ n + f' → rdT l f p n d = rdT l f' p n d
  | 0, f', p, n, d, h, h1, _ => absurd h1 (by omega)
  | f + 1, 0, p, n, d, h, _, h2 => absurd h2 (by omega)
  | f + 1, f' + 1, p, n, d, h, h1, h2 => opnR_eq (rdT_on l f) (fun p m d hm hm2 => rdT_eq l f f' p m d hm2 (by omega) (by omega))
theorem RT_on (l : List UInt8) (d : Nat) : Onw l.length (fun p n => RT l p n d) := rdT_on l (2000 + 1) d
theorem rdT_own (l : List UInt8) (f p n d : Nat) (hn : n ≤ 2000) (hf : 2000 ≤ f) : rdT l (f + 1) p n d = opnR (rdT l (f + 1)) (bgn l p n d) d :=
  (rdT_succ l f p n d).trans (opnR_eq (T := rdT l f) (rdT_on l f) (fun p m d hm hm2 => rdT_eq l f (f + 1) p m d hm2 (by omega) (by omega)))
theorem RT_eq (l : List UInt8) (p n d : Nat) (hn : n ≤ 2000) : RT l p n d = opnR (RT l) (bgn l p n d) d := rdT_own l 2000 p n d hn (Nat.le_refl _)

/-- One that is open, plain: its kind, how deep, its parts, how many it wants. -/
structure Hp where
  mk ::
  kind : Int
  depth : Nat
  K : List Tm
  want : Nat
/-- What comes of a term, when the innermost that is open takes it. -/
def takR (T : Nat → Nat → Nat → Rs) (h : Hp) (r : Rs) : Rs :=
  if r.e ≠ 0 then Rs.bad r.e else
  if h.kind = 5 then endT (prep (h.K ++ [r.t]) (rdK (fun p n => T p n (h.depth + 1)) (h.want - (h.K.length + 1)) r.p r.n)) else
  if h.K.length + 1 = h.want then tailL h.K r else endL (prep (h.K ++ [r.t]) (rdK (fun p n => T p n (h.depth + 1)) (h.want - 1 - (h.K.length + 1)) r.p r.n)) (fun p n => T p n h.depth)
/-- What comes of a term at last. -/
def fin (T : Nat → Nat → Nat → Rs) : List Hp → Rs → Rs
  | [], r => r
  | h :: rest, r => fin T rest (takR T h r)
theorem fin_bad (T : Nat → Nat → Nat → Rs) (e : Nat) (he : e ≠ 0) : ∀ S : List Hp, fin T S (Rs.bad e) = Rs.bad e
  | [] => rfl
  | h :: rest => by
    show fin T rest (takR T h (Rs.bad e)) = _
    have : takR T h (Rs.bad e) = Rs.bad e := by unfold takR; rw [if_pos (show (Rs.bad e).e ≠ 0 from he)]; rfl
    rw [this]; exact fin_bad T e he rest
def depP : List Hp → Nat
  | [] => 1
  | h :: _ => if h.kind = 4 ∧ h.K.length + 1 = h.want then h.depth else h.depth + 1

theorem bad_rs {r : Rs} (h : r = Rs.bad r.e ∨ r.e = 0) (he : r.e ≠ 0) : r = Rs.bad r.e := h.resolve_right he
/-- RT's answers are wrong in one way only. -/
theorem opnR_bad (T : Nat → Nat → Nat → Rs) (b : Bg) (d : Nat) : opnR T b d = Rs.bad (opnR T b d).e ∨ (opnR T b d).e = 0 := by
  unfold opnR endT endL tailL
  repeat' split
  all_goals first | exact .inl rfl | exact .inr rfl
theorem RT_bad (l : List UInt8) (p n d : Nat) (hn : n ≤ 2000) : RT l p n d = Rs.bad (RT l p n d).e ∨ (RT l p n d).e = 0 := by
  rw [RT_eq l p n d hn]; exact opnR_bad _ _ _

/-- One more is opened. -/
theorem fin_push (l : List UInt8) (T : Nat → Nat → Nat → Rs) (hT : ∀ p n d, n ≤ 2000 → T p n d = opnR T (bgn l p n d) d) (S : List Hp) (p n : Nat) (hn : n ≤ 2000) (h0 : (bgn l p n (depP S)).e = 0) (hw : 0 < (bgn l p n (depP S)).want) :
    fin T S (T p n (depP S)) = fin T (⟨(bgn l p n (depP S)).t.kind, depP S, [], (bgn l p n (depP S)).want⟩ :: S) (T (bgn l p n (depP S)).p (bgn l p n (depP S)).n (depP (⟨(bgn l p n (depP S)).t.kind, depP S, [], (bgn l p n (depP S)).want⟩ :: S))) := by
  obtain ⟨b1, b2, b3, b4, b5, b6, b7⟩ := bgn_ok h0
  show _ = fin T S (takR T _ _)
  congr 1
  rw [hT p n _ hn]
  generalize depP S = d at *
  generalize bgn l p n d = b at *
  unfold opnR
  rw [if_neg (fun h2 => h2 h0), if_neg (by omega)]
  rcases b7 hw with h5 | ⟨h4, hw2⟩
  · rw [if_pos h5]
    have hd : depP (⟨b.t.kind, d, [], b.want⟩ :: S) = d + 1 := by simp only [depP]; rw [if_neg (fun h => by omega)]
    rw [hd]
    obtain ⟨c, hc⟩ : ∃ c, b.want = c + 1 := ⟨b.want - 1, by omega⟩
    unfold takR
    simp only [h5, if_true, List.nil_append, List.length_nil, Nat.zero_add, hc]
    show endT (consR (T b.p b.n (d + 1)) _) = _
    by_cases hr : (T b.p b.n (d + 1)).e = 0
    · rw [consR_0 hr, if_neg (fun h2 => h2 hr), Nat.add_sub_cancel]
    · rw [consR_bad hr, if_pos hr]
      unfold endT
      exact if_pos hr
  · rw [if_neg (by omega)]
    have hd : depP (⟨b.t.kind, d, [], b.want⟩ :: S) = d + 1 := by simp only [depP, List.length_nil]; rw [if_neg (fun h => by omega)]
    rw [hd]
    obtain ⟨c, hc⟩ : ∃ c, b.want = c + 2 := ⟨b.want - 2, by omega⟩
    unfold takR
    simp only [h4, List.nil_append, List.length_nil, Nat.zero_add, hc]
    rw [if_neg (show ¬ (4 : Int) = 5 by decide), if_neg (show ¬ 1 = c + 2 by omega)]
    show endL (consR (T b.p b.n (d + 1)) _) _ = _
    by_cases hr : (T b.p b.n (d + 1)).e = 0
    · rw [consR_0 hr, if_neg (fun h2 => h2 hr), show c + 2 - 1 - 1 = c by omega]
    · rw [consR_bad hr, if_pos hr]
      unfold endL
      exact if_pos hr
/-- One more part, and more are wanted. -/
theorem fin_part (T : Nat → Nat → Nat → Rs) (h : Hp) (S : List Hp) (t : Tm) (p n : Nat) (hk : h.kind = 4 ∨ h.kind = 5) (hw : h.K.length + 1 < h.want) :
    fin T (h :: S) ⟨0, t, p, n⟩ = fin T (⟨h.kind, h.depth, h.K ++ [t], h.want⟩ :: S) (T p n (depP (⟨h.kind, h.depth, h.K ++ [t], h.want⟩ :: S))) := by
  show fin T S (takR T _ _) = fin T S (takR T _ _)
  congr 1
  obtain ⟨kd, d, K, wt⟩ := h
  simp only at hk hw ⊢
  rcases hk with rfl | rfl
  · by_cases h2 : K.length + 2 = wt
    · have hd : depP (⟨4, d, K ++ [t], wt⟩ :: S) = d := by simp only [depP, List.length_append, List.length_cons, List.length_nil]; rw [if_pos (by first | exact ⟨trivial, by omega⟩ | exact ⟨rfl, by omega⟩)]
      rw [hd]
      unfold takR
      simp only [List.length_append, List.length_cons, List.length_nil]
      rw [if_neg (fun h => h rfl), if_neg (show ¬ (4 : Int) = 5 by decide), if_neg (show ¬ K.length + 1 = wt by omega), show wt - 1 - (K.length + 1) = 0 by omega]
      rw [if_neg (show ¬ (4 : Int) = 5 by decide), if_pos (show K.length + (0 + 1) + 1 = wt by omega)]
      have e : endL (prep (K ++ [t]) (rdK (fun p n => T p n (d + 1)) 0 p n)) (fun p n => T p n d) = tailL (K ++ [t]) (T p n d) := by
        have : prep (K ++ [t]) (rdK (fun p n => T p n (d + 1)) 0 p n) = ⟨0, K ++ [t], p, n⟩ := by
          rw [prep_0 rfl]; simp [rdK]
        rw [this]; rfl
      rw [e]
      by_cases hr : (T p n d).e = 0
      · rw [if_neg (fun h2 => h2 hr)]
      · rw [if_pos hr]; unfold tailL; rw [if_pos hr]
    · have hd : depP (⟨4, d, K ++ [t], wt⟩ :: S) = d + 1 := by simp only [depP, List.length_append, List.length_cons, List.length_nil]; rw [if_neg (fun h => by omega)]
      rw [hd]
      unfold takR
      simp only [List.length_append, List.length_cons, List.length_nil]
      obtain ⟨c, hc⟩ : ∃ c, wt - 1 - (K.length + 1) = c + 1 := ⟨wt - 1 - (K.length + 1) - 1, by omega⟩
      rw [if_neg (fun h => h rfl), if_neg (show ¬ (4 : Int) = 5 by decide), if_neg (show ¬ K.length + 1 = wt by omega), hc]
      rw [if_neg (show ¬ (4 : Int) = 5 by decide), if_neg (show ¬ K.length + (0 + 1) + 1 = wt by omega), show wt - 1 - (K.length + (0 + 1) + 1) = c by omega]
      show endL (prep (K ++ [t]) (consR (T p n (d + 1)) _)) _ = _
      by_cases hr : (T p n (d + 1)).e = 0
      · rw [consR_0 hr, if_neg (fun h2 => h2 hr), prep_prep]
      · rw [consR_bad hr, if_pos hr, prep_bad (r := Rk.bad _) hr]
        unfold endL
        exact if_pos hr
  · have hd : depP (⟨5, d, K ++ [t], wt⟩ :: S) = d + 1 := by simp only [depP]; rw [if_neg (fun h => by omega)]
    rw [hd]
    unfold takR
    simp only [List.length_append, List.length_cons, List.length_nil, if_true]
    obtain ⟨c, hc⟩ : ∃ c, wt - (K.length + 1) = c + 1 := ⟨wt - (K.length + 1) - 1, by omega⟩
    rw [if_neg (fun h => h rfl), hc, show wt - (K.length + (0 + 1) + 1) = c by omega]
    show endT (prep (K ++ [t]) (consR (T p n (d + 1)) _)) = _
    by_cases hr : (T p n (d + 1)).e = 0
    · rw [consR_0 hr, if_neg (fun h2 => h2 hr), prep_prep]
    · rw [consR_bad hr, if_pos hr, prep_bad (r := Rk.bad _) hr]
      unfold endT
      exact if_pos hr
/-- What the innermost comes to with its last part. -/
def shutT (h : Hp) (t : Tm) (p n : Nat) : Rs := if h.kind = 5 then ⟨0, tupT (h.K ++ [t]), p, n⟩ else if t.kind = 4 then Rs.bad 4 else ⟨0, listT h.K t, p, n⟩
theorem fin_shut (T : Nat → Nat → Nat → Rs) (h : Hp) (S : List Hp) (t : Tm) (p n : Nat) (hw : h.K.length + 1 = h.want) : fin T (h :: S) ⟨0, t, p, n⟩ = fin T S (shutT h t p n) := by
  show fin T S (takR T _ _) = _
  congr 1
  unfold takR shutT
  rw [if_neg (fun h => h rfl)]
  by_cases h5 : h.kind = 5
  · rw [if_pos h5, if_pos h5, show h.want - (h.K.length + 1) = 0 by omega, prep_0 rfl]
    simp [rdK, endT]
  · rw [if_neg h5, if_neg h5, if_pos hw]
    unfold tailL
    rw [if_neg (fun h => h rfl)]
end Go.Proofs.YtbmondbicnfcpaaDoor
