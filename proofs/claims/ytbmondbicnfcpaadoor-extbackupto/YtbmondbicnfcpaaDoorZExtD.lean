import Derived.Test.YtbmondbicnfcpaaDoorZExtC
import Derived.Test.YtbmondbicnfcpaaDoorZExtB
import Derived.Deep.Cut

/-
  ext: what is read, plain: a term, and the stack of those that are open.
-/
namespace Go.Proofs.YtbmondbicnfcpaaDoor
open Go.RowKit
set_option linter.unusedVariables false
set_option linter.unusedSimpArgs false

/-- A term that was read, or what is wrong; the place behind; how many terms there were. -/
structure Rs where
  mk ::
  e : Nat
  t : Tm
  p : Nat
  n : Nat
def Rs.bad (e : Nat) : Rs := ⟨e, tmZ, 0, 0⟩
structure Rk where
  mk ::
  e : Nat
  K : List Tm
  p : Nat
  n : Nat
def Rk.bad (e : Nat) : Rk := ⟨e, [], 0, 0⟩
def prep (K : List Tm) (r : Rk) : Rk := if r.e ≠ 0 then Rk.bad r.e else ⟨0, K ++ r.K, r.p, r.n⟩
def consR (r : Rs) (k : Nat → Nat → Rk) : Rk := if r.e ≠ 0 then Rk.bad r.e else prep [r.t] (k r.p r.n)
def rdK (G : Nat → Nat → Rs) : Nat → Nat → Nat → Rk
  | 0, p, n => ⟨0, [], p, n⟩
  | c + 1, p, n => consR (G p n) (rdK G c)
def tupT (K : List Tm) : Tm := .mk 5 false [] ⟨#[]⟩ 0 K
def endT (r : Rk) : Rs := if r.e ≠ 0 then Rs.bad r.e else ⟨0, tupT r.K, r.p, r.n⟩
def tailL (K : List Tm) (q : Rs) : Rs := if q.e ≠ 0 then Rs.bad q.e else if q.t.kind = 4 then Rs.bad 4 else ⟨0, listT K q.t, q.p, q.n⟩
def endL (r : Rk) (T : Nat → Nat → Rs) : Rs := if r.e ≠ 0 then Rs.bad r.e else tailL r.K (T r.p r.n)
def opnR (T : Nat → Nat → Nat → Rs) (b : Bg) (d : Nat) : Rs :=
  if b.e ≠ 0 then Rs.bad b.e else if b.want = 0 then ⟨0, b.t, b.p, b.n⟩ else if b.t.kind = 5 then endT (rdK (fun p n => T p n (d + 1)) b.want b.p b.n) else endL (rdK (fun p n => T p n (d + 1)) (b.want - 1) b.p b.n) (fun p n => T p n d)
def rdT (l : List UInt8) : Nat → Nat → Nat → Nat → Rs
  | 0, _, _, _ => Rs.bad 4
  | f + 1, p, n, d => opnR (rdT l f) (bgn l p n d) d
/-- The term at a place, where so many came ahead of it and it lies so deep. -/
def RT (l : List UInt8) (p n d : Nat) : Rs := rdT l (2000 + 1) p n d
theorem rdT_succ (l : List UInt8) (f p n d : Nat) : rdT l (f + 1) p n d = opnR (rdT l f) (bgn l p n d) d := rfl

theorem sh_list {t : Nat} {s : Sh} (h : shF t = some s) : (s.tag = 108 → s.lo = 1) ∧ s.tag = t := by
  have h1 := List.find?_some h
  have hm : s ∈ shT := List.mem_of_find?_eq_some h
  refine ⟨?_, by simpa using h1⟩
  simp only [shT, List.mem_cons, List.not_mem_nil, or_false] at hm
  rcases hm with rfl | rfl | rfl | rfl | rfl | rfl | rfl | rfl <;> decide
/-- What holds of what begins. -/
theorem bgn_ok {l : List UInt8} {p n d : Nat} (h : (bgn l p n d).e = 0) : n < (bgn l p n d).n ∧ (bgn l p n d).n ≤ 2000 ∧ p < (bgn l p n d).p ∧ (bgn l p n d).p ≤ l.length ∧ d ≤ 60 ∧ (bgn l p n d).want ≤ 2001 ∧ (0 < (bgn l p n d).want → ((bgn l p n d).t.kind = 5 ∨ ((bgn l p n d).t.kind = 4 ∧ 2 ≤ (bgn l p n d).want))) := by
  by_cases h1 : (fstR l p n d).1 ≠ 0
  · unfold bgn at h; rw [if_pos h1] at h; exact absurd h h1
  · by_cases h2 : (manR l (p + 1) n (fstR l p n d).2).1 ≠ 0
    · unfold bgn at h; rw [if_neg h1, if_pos h2] at h; exact absurd h h2
    · have e1 : bgn l p n d = bgn.bgnD l p n (fstR l p n d).2 (manR l (p + 1) n (fstR l p n d).2).2 (p + 1 + (fstR l p n d).2.w) ((fstR l p n d).2.al + (fstR l p n d).2.ea * (manR l (p + 1) n (fstR l p n d).2).2) := by unfold bgn; rw [if_neg h1, if_neg h2]
      obtain ⟨hso, hp1, hn1, hd1, hsf⟩ := fst_ok (l := l) (p := p) (n := n) (d := d) (by omega)
      obtain ⟨so1, so2, so3, so4, so5, so6, so7, so8⟩ := hso
      obtain ⟨hm1, hm2, hm3⟩ := man_ok (l := l) (p := p + 1) (n := n) (s := (fstR l p n d).2) (by omega)
      obtain ⟨hlo, -⟩ := sh_list hsf
      rw [e1] at h ⊢
      generalize (fstR l p n d).2 = s at *
      generalize (manR l (p + 1) n s).2 = c at *
      generalize s.al + s.ea * c = m at *
      unfold bgn.bgnD at h ⊢
      by_cases h3 : l.length < p + 1 + s.w + m
      · rw [if_pos h3] at h; cases h
      · rw [if_neg h3] at h ⊢
        by_cases h4 : 0 < m ∧ putO (rawT s.tag ((l.drop (p + 1 + s.w)).take m)) ≠ (l.drop p).take (p + 1 + s.w + m - p)
        · rw [if_pos h4] at h; cases h
        · rw [if_neg h4]
          dsimp only
          by_cases h108 : s.tag = 108
          · have e : rawT s.tag ((l.drop (p + 1 + s.w)).take m) = .mk 4 false [] ⟨#[]⟩ 0 [] := by rw [h108]; rfl
            have h5 := so4 h108
            have h6 := hlo h108
            rw [if_pos h108] at hm3
            rw [if_pos h108, if_pos h108, e]
            exact ⟨by omega, by omega, by omega, by omega, hd1, by omega, fun _ => .inr ⟨rfl, by omega⟩⟩
          · rw [if_neg h108] at hm3
            rw [if_neg h108, if_neg h108]
            by_cases h104 : s.tag = 104
            · have e : rawT s.tag ((l.drop (p + 1 + s.w)).take m) = .mk 5 false [] ⟨#[]⟩ 0 [] := by rw [h104]; rfl
              rw [if_pos h104, e]
              exact ⟨by omega, by omega, by omega, by omega, hd1, by omega, fun _ => .inl rfl⟩
            · rw [if_neg h104]
              exact ⟨by omega, by omega, by omega, by omega, hd1, by omega, fun h => absurd h (by omega)⟩

/-- It goes on. -/
def Onw (L : Nat) (G : Nat → Nat → Rs) : Prop := ∀ p n, (G p n).e = 0 → n ≤ (G p n).n ∧ (G p n).n ≤ 2000 ∧ (G p n).p ≤ L
theorem prep_e (K : List Tm) (r : Rk) : (prep K r).e = r.e := by
  unfold prep
  by_cases h : r.e = 0
  · rw [if_neg (fun h2 => h2 h)]; exact h.symm
  · rw [if_pos h]; rfl
theorem prep_0 {K : List Tm} {r : Rk} (h : r.e = 0) : prep K r = ⟨0, K ++ r.K, r.p, r.n⟩ := by unfold prep; rw [if_neg (fun h2 => h2 h)]
theorem prep_bad {K : List Tm} {r : Rk} (h : r.e ≠ 0) : prep K r = Rk.bad r.e := by unfold prep; rw [if_pos h]
theorem prep_prep (K M : List Tm) (r : Rk) : prep K (prep M r) = prep (K ++ M) r := by
  by_cases h : r.e = 0
  · rw [prep_0 h, prep_0 h, prep_0 rfl]; simp
  · rw [prep_bad h, prep_bad h, prep_bad (r := Rk.bad r.e) h]; rfl
theorem consR_0 {r : Rs} {k : Nat → Nat → Rk} (h : r.e = 0) : consR r k = prep [r.t] (k r.p r.n) := by unfold consR; rw [if_neg (fun h2 => h2 h)]
theorem consR_bad {r : Rs} {k : Nat → Nat → Rk} (h : r.e ≠ 0) : consR r k = Rk.bad r.e := by unfold consR; rw [if_pos h]
theorem rdK_on {L : Nat} {G : Nat → Nat → Rs} (hG : Onw L G) : ∀ (c p n : Nat), n ≤ 2000 → p ≤ L → (rdK G c p n).e = 0 → n ≤ (rdK G c p n).n ∧ (rdK G c p n).n ≤ 2000 ∧ (rdK G c p n).p ≤ L
  | 0, p, n, hn, hp, _ => ⟨Nat.le_refl _, hn, hp⟩
  | c + 1, p, n, hn, hp, h => by
    by_cases h1 : (G p n).e = 0
    · obtain ⟨h2, h3, h4⟩ := hG p n h1
      have e : rdK G (c + 1) p n = prep [(G p n).t] (rdK G c (G p n).p (G p n).n) := consR_0 h1
      rw [e] at h ⊢
      rw [prep_e] at h
      obtain ⟨h5, h6, h7⟩ := rdK_on hG c _ _ h3 h4 h
      rw [prep_0 h]
      exact ⟨by simp only; omega, h6, h7⟩
    · have e : rdK G (c + 1) p n = Rk.bad (G p n).e := consR_bad h1
      rw [e] at h
      exact absurd h h1
theorem rdK_eq {L : Nat} {G G' : Nat → Nat → Rs} (hG : Onw L G) : ∀ (c p n : Nat), n ≤ 2000 → (∀ p m, n ≤ m → m ≤ 2000 → G p m = G' p m) → rdK G c p n = rdK G' c p n
  | 0, p, n, _, _ => rfl
  | c + 1, p, n, hn, he => by
    show consR (G p n) (rdK G c) = consR (G' p n) (rdK G' c)
    rw [← he p n (Nat.le_refl _) hn]
    by_cases h1 : (G p n).e = 0
    · obtain ⟨h2, h3, h4⟩ := hG p n h1
      rw [consR_0 h1, consR_0 h1, rdK_eq hG c _ _ h3 (fun p m hm hm2 => he p m (by omega) hm2)]
    · rw [consR_bad h1, consR_bad h1]
theorem tailL_0 {K : List Tm} {q : Rs} (h : (tailL K q).e = 0) : q.e = 0 ∧ ¬ q.t.kind = 4 ∧ tailL K q = ⟨0, listT K q.t, q.p, q.n⟩ := by
  unfold tailL at h ⊢
  by_cases h1 : q.e ≠ 0
  · rw [if_pos h1] at h; exact absurd h h1
  · rw [if_neg h1] at h ⊢
    by_cases h2 : q.t.kind = 4
    · rw [if_pos h2] at h; cases h
    · rw [if_neg h2]; exact ⟨by omega, h2, rfl⟩
theorem opnR_on {l : List UInt8} {T : Nat → Nat → Nat → Rs} (hT : ∀ d, Onw l.length (fun p n => T p n d)) {p n d : Nat} (h : (opnR T (bgn l p n d) d).e = 0) : n < (opnR T (bgn l p n d) d).n ∧ (opnR T (bgn l p n d) d).n ≤ 2000 ∧ (opnR T (bgn l p n d) d).p ≤ l.length := by
  by_cases h0 : (bgn l p n d).e = 0
  · obtain ⟨b1, b2, b3, b4, b5, b6, b7⟩ := bgn_ok h0
    generalize bgn l p n d = b at *
    unfold opnR at h ⊢
    rw [if_neg (fun h2 => h2 h0)] at h ⊢
    by_cases h1 : b.want = 0
    · rw [if_pos h1]; exact ⟨b1, b2, b4⟩
    · rw [if_neg h1] at h ⊢
      by_cases h2 : b.t.kind = 5
      · rw [if_pos h2] at h ⊢
        unfold endT at h ⊢
        by_cases h3 : (rdK (fun p n => T p n (d + 1)) b.want b.p b.n).e ≠ 0
        · rw [if_pos h3] at h; exact absurd h h3
        · rw [if_neg h3]
          obtain ⟨h5, h6, h7⟩ := rdK_on (hT (d + 1)) b.want b.p b.n b2 b4 (by omega)
          exact ⟨by simp only; omega, h6, h7⟩
      · rw [if_neg h2] at h ⊢
        unfold endL at h ⊢
        by_cases h3 : (rdK (fun p n => T p n (d + 1)) (b.want - 1) b.p b.n).e ≠ 0
        · rw [if_pos h3] at h; exact absurd h h3
        · rw [if_neg h3] at h ⊢
          obtain ⟨h5, h6, h7⟩ := rdK_on (hT (d + 1)) (b.want - 1) b.p b.n b2 b4 (by omega)
          obtain ⟨h8, h9, h10⟩ := tailL_0 h
          rw [h10]
          obtain ⟨h11, h12, h13⟩ := hT d _ _ h8
          exact ⟨by simp only at h11 ⊢; omega, h12, h13⟩
  · unfold opnR at h
    rw [if_pos h0] at h
    exact absurd h h0
theorem rdT_on (l : List UInt8) : ∀ (f d : Nat), Onw l.length (fun p n => rdT l f p n d)
  | 0, d => fun p n h => by cases h
  | f + 1, d => fun p n h => by
    obtain ⟨h1, h2, h3⟩ := opnR_on (T := rdT l f) (rdT_on l f) h
    exact ⟨Nat.le_of_lt h1, h2, h3⟩
theorem opnR_eq {l : List UInt8} {T T' : Nat → Nat → Nat → Rs} (hT : ∀ d, Onw l.length (fun p n => T p n d)) {p n d : Nat} (he : ∀ p m d, n + 1 ≤ m → m ≤ 2000 → T p m d = T' p m d) : opnR T (bgn l p n d) d = opnR T' (bgn l p n d) d := by
  by_cases h0 : (bgn l p n d).e = 0
  · obtain ⟨b1, b2, b3, b4, b5, b6, b7⟩ := bgn_ok h0
    generalize bgn l p n d = b at *
    unfold opnR
    rw [if_neg (show ¬ b.e ≠ 0 from fun h2 => h2 h0), if_neg (show ¬ b.e ≠ 0 from fun h2 => h2 h0)]
    by_cases h1 : b.want = 0
    · rw [if_pos h1, if_pos h1]
    · rw [if_neg h1, if_neg h1]
      by_cases h2 : b.t.kind = 5
      · rw [if_pos h2, if_pos h2, rdK_eq (hT (d + 1)) b.want b.p b.n b2 (fun p m hm hm2 => he p m (d + 1) (by omega) hm2)]
      · rw [if_neg h2, if_neg h2, rdK_eq (hT (d + 1)) (b.want - 1) b.p b.n b2 (fun p m hm hm2 => he p m (d + 1) (by omega) hm2)]
        have hk := rdK_eq (hT (d + 1)) (b.want - 1) b.p b.n b2 (fun p m hm hm2 => he p m (d + 1) (by omega) hm2)
        have ho := rdK_on (hT (d + 1)) (b.want - 1) b.p b.n b2 b4
        rw [hk] at ho
        unfold endL
        by_cases h3 : (rdK (fun p n => T' p n (d + 1)) (b.want - 1) b.p b.n).e ≠ 0
        · rw [if_pos h3, if_pos h3]
        · rw [if_neg h3, if_neg h3]
          obtain ⟨h5, h6, h7⟩ := ho (by omega)
          exact congrArg (tailL _) (he _ _ d (by omega) h6)
  · unfold opnR
    rw [if_pos h0, if_pos h0]
theorem rdT_eq (l : List UInt8) : ∀ (f f' p n d : Nat), n ≤ 2000 → 2001 ≤ n + f → 2001 ≤ n + f' → rdT l f p n d = rdT l f' p n d
  | 0, f', p, n, d, h, h1, _ => absurd h1 (by omega)
  | f + 1, 0, p, n, d, h, _, h2 => absurd h2 (by omega)
  | f + 1, f' + 1, p, n, d, h, h1, h2 => opnR_eq (rdT_on l f) (fun p m d hm hm2 => rdT_eq l f f' p m d hm2 (by omega) (by omega))
theorem RT_on (l : List UInt8) (d : Nat) : Onw l.length (fun p n => RT l p n d) := rdT_on l (2000 + 1) d
theorem rdT_own (l : List UInt8) (f p n d : Nat) (hn : n ≤ 2000) (hf : 2000 ≤ f) : rdT l (f + 1) p n d = opnR (rdT l (f + 1)) (bgn l p n d) d :=
  (rdT_succ l f p n d).trans (opnR_eq (T := rdT l f) (rdT_on l f) (fun p m d hm hm2 => rdT_eq l f (f + 1) p m d hm2 (by omega) (by omega)))
theorem RT_eq (l : List UInt8) (p n d : Nat) (hn : n ≤ 2000) : RT l p n d = opnR (RT l) (bgn l p n d) d := rdT_own l 2000 p n d hn (Nat.le_refl _)

/-- One that is open, plain: its kind, how deep, its parts, how many it wants. -/
structure Hp where
  mk ::
  kind : Int
  depth : Nat
  K : List Tm
  want : Nat
/-- What comes of a term, when the innermost that is open takes it. -/
def takR (T : Nat → Nat → Nat → Rs) (h : Hp) (r : Rs) : Rs :=
  if r.e ≠ 0 then Rs.bad r.e else
  if h.kind = 5 then endT (prep (h.K ++ [r.t]) (rdK (fun p n => T p n (h.depth + 1)) (h.want - (h.K.length + 1)) r.p r.n)) else
  if h.K.length + 1 = h.want then tailL h.K r else endL (prep (h.K ++ [r.t]) (rdK (fun p n => T p n (h.depth + 1)) (h.want - 1 - (h.K.length + 1)) r.p r.n)) (fun p n => T p n h.depth)
/-- What comes of a term at last. -/
def fin (T : Nat → Nat → Nat → Rs) : List Hp → Rs → Rs
  | [], r => r
  | h :: rest, r => fin T rest (takR T h r)
theorem fin_bad (T : Nat → Nat → Nat → Rs) (e : Nat) (he : e ≠ 0) : ∀ S : List Hp, fin T S (Rs.bad e) = Rs.bad e
  | [] => rfl
  | h :: rest => by
    show fin T rest (takR T h (Rs.bad e)) = _
    have : takR T h (Rs.bad e) = Rs.bad e := by unfold takR; rw [if_pos (show (Rs.bad e).e ≠ 0 from he)]; rfl
    rw [this]; exact fin_bad T e he rest
def depP : List Hp → Nat
  | [] => 1
  | h :: _ => if h.kind = 4 ∧ h.K.length + 1 = h.want then h.depth else h.depth + 1

theorem bad_rs {r : Rs} (h : r = Rs.bad r.e ∨ r.e = 0) (he : r.e ≠ 0) : r = Rs.bad r.e := h.resolve_right he
/-- RT's answers are wrong in one way only. -/
theorem opnR_bad (T : Nat → Nat → Nat → Rs) (b : Bg) (d : Nat) : opnR T b d = Rs.bad (opnR T b d).e ∨ (opnR T b d).e = 0 := by
  unfold opnR endT endL tailL
  repeat' split
  all_goals first | exact .inl rfl | exact .inr rfl
theorem RT_bad (l : List UInt8) (p n d : Nat) (hn : n ≤ 2000) : RT l p n d = Rs.bad (RT l p n d).e ∨ (RT l p n d).e = 0 := by
  rw [RT_eq l p n d hn]; exact opnR_bad _ _ _

/-- One more is opened. -/
theorem fin_push (l : List UInt8) (T : Nat → Nat → Nat → Rs) (hT : ∀ p n d, n ≤ 2000 → T p n d = opnR T (bgn l p n d) d) (S : List Hp) (p n : Nat) (hn : n ≤ 2000) (h0 : (bgn l p n (depP S)).e = 0) (hw : 0 < (bgn l p n (depP S)).want) :
    fin T S (T p n (depP S)) = fin T (⟨(bgn l p n (depP S)).t.kind, depP S, [], (bgn l p n (depP S)).want⟩ :: S) (T (bgn l p n (depP S)).p (bgn l p n (depP S)).n (depP (⟨(bgn l p n (depP S)).t.kind, depP S, [], (bgn l p n (depP S)).want⟩ :: S))) := by
  obtain ⟨b1, b2, b3, b4, b5, b6, b7⟩ := bgn_ok h0
  show _ = fin T S (takR T _ _)
  congr 1
  rw [hT p n _ hn]
  generalize depP S = d at *
  generalize bgn l p n d = b at *
  unfold opnR
  rw [if_neg (fun h2 => h2 h0), if_neg (by omega)]
  rcases b7 hw with h5 | ⟨h4, hw2⟩
  · rw [if_pos h5]
    have hd : depP (⟨b.t.kind, d, [], b.want⟩ :: S) = d + 1 := by simp only [depP]; rw [if_neg (fun h => by omega)]
    rw [hd]
    obtain ⟨c, hc⟩ : ∃ c, b.want = c + 1 := ⟨b.want - 1, by omega⟩
    unfold takR
    simp only [h5, if_true, List.nil_append, List.length_nil, Nat.zero_add, hc]
    show endT (consR (T b.p b.n (d + 1)) _) = _
    by_cases hr : (T b.p b.n (d + 1)).e = 0
    · rw [consR_0 hr, if_neg (fun h2 => h2 hr), Nat.add_sub_cancel]
    · rw [consR_bad hr, if_pos hr]
      unfold endT
      exact if_pos hr
  · rw [if_neg (by omega)]
    have hd : depP (⟨b.t.kind, d, [], b.want⟩ :: S) = d + 1 := by simp only [depP, List.length_nil]; rw [if_neg (fun h => by omega)]
    rw [hd]
    obtain ⟨c, hc⟩ : ∃ c, b.want = c + 2 := ⟨b.want - 2, by omega⟩
    unfold takR
    simp only [h4, List.nil_append, List.length_nil, Nat.zero_add, hc]
    rw [if_neg (show ¬ (4 : Int) = 5 by decide), if_neg (show ¬ 1 = c + 2 by omega)]
    show endL (consR (T b.p b.n (d + 1)) _) _ = _
    by_cases hr : (T b.p b.n (d + 1)).e = 0
    · rw [consR_0 hr, if_neg (fun h2 => h2 hr), show c + 2 - 1 - 1 = c by omega]
    · rw [consR_bad hr, if_pos hr]
      unfold endL
      exact if_pos hr
/-- One more part, and more are wanted. -/
theorem fin_part (T : Nat → Nat → Nat → Rs) (h : Hp) (S : List Hp) (t : Tm) (p n : Nat) (hk : h.kind = 4 ∨ h.kind = 5) (hw : h.K.length + 1 < h.want) :
    fin T (h :: S) ⟨0, t, p, n⟩ = fin T (⟨h.kind, h.depth, h.K ++ [t], h.want⟩ :: S) (T p n (depP (⟨h.kind, h.depth, h.K ++ [t], h.want⟩ :: S))) := by
  show fin T S (takR T _ _) = fin T S (takR T _ _)
  congr 1
  obtain ⟨kd, d, K, wt⟩ := h
  simp only at hk hw ⊢
  rcases hk with rfl | rfl
  · by_cases h2 : K.length + 2 = wt
    · have hd : depP (⟨4, d, K ++ [t], wt⟩ :: S) = d := by simp only [depP, List.length_append, List.length_cons, List.length_nil]; rw [if_pos (by first | exact ⟨trivial, by omega⟩ | exact ⟨rfl, by omega⟩)]
      rw [hd]
      unfold takR
      simp only [List.length_append, List.length_cons, List.length_nil]
      rw [if_neg (fun h => h rfl), if_neg (show ¬ (4 : Int) = 5 by decide), if_neg (show ¬ K.length + 1 = wt by omega), show wt - 1 - (K.length + 1) = 0 by omega]
      rw [if_neg (show ¬ (4 : Int) = 5 by decide), if_pos (show K.length + (0 + 1) + 1 = wt by omega)]
      have e : endL (prep (K ++ [t]) (rdK (fun p n => T p n (d + 1)) 0 p n)) (fun p n => T p n d) = tailL (K ++ [t]) (T p n d) := by
        have : prep (K ++ [t]) (rdK (fun p n => T p n (d + 1)) 0 p n) = ⟨0, K ++ [t], p, n⟩ := by
          rw [prep_0 rfl]; simp [rdK]
        rw [this]; rfl
      rw [e]
      by_cases hr : (T p n d).e = 0
      · rw [if_neg (fun h2 => h2 hr)]
      · rw [if_pos hr]; unfold tailL; rw [if_pos hr]
    · have hd : depP (⟨4, d, K ++ [t], wt⟩ :: S) = d + 1 := by simp only [depP, List.length_append, List.length_cons, List.length_nil]; rw [if_neg (fun h => by omega)]
      rw [hd]
      unfold takR
      simp only [List.length_append, List.length_cons, List.length_nil]
      obtain ⟨c, hc⟩ : ∃ c, wt - 1 - (K.length + 1) = c + 1 := ⟨wt - 1 - (K.length + 1) - 1, by omega⟩
      rw [if_neg (fun h => h rfl), if_neg (show ¬ (4 : Int) = 5 by decide), if_neg (show ¬ K.length + 1 = wt by omega), hc]
      rw [if_neg (show ¬ (4 : Int) = 5 by decide), if_neg (show ¬ K.length + (0 + 1) + 1 = wt by omega), show wt - 1 - (K.length + (0 + 1) + 1) = c by omega]
      show endL (prep (K ++ [t]) (consR (T p n (d + 1)) _)) _ = _
      by_cases hr : (T p n (d + 1)).e = 0
      · rw [consR_0 hr, if_neg (fun h2 => h2 hr), prep_prep]
      · rw [consR_bad hr, if_pos hr, prep_bad (r := Rk.bad _) hr]
        unfold endL
        exact if_pos hr
  · have hd : depP (⟨5, d, K ++ [t], wt⟩ :: S) = d + 1 := by simp only [depP]; rw [if_neg (fun h => by omega)]
    rw [hd]
    unfold takR
    simp only [List.length_append, List.length_cons, List.length_nil, if_true]
    obtain ⟨c, hc⟩ : ∃ c, wt - (K.length + 1) = c + 1 := ⟨wt - (K.length + 1) - 1, by omega⟩
    rw [if_neg (fun h => h rfl), hc, show wt - (K.length + (0 + 1) + 1) = c by omega]
    show endT (prep (K ++ [t]) (consR (T p n (d + 1)) _)) = _
    by_cases hr : (T p n (d + 1)).e = 0
    · rw [consR_0 hr, if_neg (fun h2 => h2 hr), prep_prep]
    · rw [consR_bad hr, if_pos hr, prep_bad (r := Rk.bad _) hr]
      unfold endT
      exact if_pos hr
/-- What the innermost comes to with its last part. -/
def shutT (h : Hp) (t : Tm) (p n : Nat) : Rs := if h.kind = 5 then ⟨0, tupT (h.K ++ [t]), p, n⟩ else if t.kind = 4 then Rs.bad 4 else ⟨0, listT h.K t, p, n⟩
theorem fin_shut (T : Nat → Nat → Nat → Rs) (h : Hp) (S : List Hp) (t : Tm) (p n : Nat) (hw : h.K.length + 1 = h.want) : fin T (h :: S) ⟨0, t, p, n⟩ = fin T S (shutT h t p n) := by
  show fin T S (takR T _ _) = _
  congr 1
  unfold takR shutT
  rw [if_neg (fun h => h rfl)]
  by_cases h5 : h.kind = 5
  · rw [if_pos h5, if_pos h5, show h.want - (h.K.length + 1) = 0 by omega, prep_0 rfl]
    simp [rdK, endT]
  · rw [if_neg h5, if_neg h5, if_pos hw]
    unfold tailL
    rw [if_neg (fun h => h rfl)]
end Go.Proofs.YtbmondbicnfcpaaDoor

/-
  term.List, as far as its answer reaches.
-/
namespace Go.Proofs.YtbmondbicnfcpaaDoor
open Go.RowKit Go.Shelf
set_option linter.unusedVariables false
set_option linter.unusedSimpArgs false
attribute [local go_sem] Oper.semAt_some

set_option maxRecDepth 100000 in
set_option maxHeartbeats 2000000 in
theorem back_stopsV (F : Fence) (n : Nat) (hF : F.fn 119) (hro : F.round = none) (hn : 1 ≤ n) (Bn : Nat) (sv : Value) (K : List Tm) (w0 w : World) (m : Nat) (hm : m ≤ w.heap.size) (hT : Ts w0 sv K) (hb : ∀ W, Below m w W → ∀ a u, w0.cell? a = some u → W.cell? a = some u) (hBn : Bn < w.heap.size) (hcell : w.cell? ⟨Bn, 0, none⟩ = some sv) :
    SeqStopsK F n Tryd.prog 119 #[.pointer (some ⟨Bn, 0, none⟩)] (fun x : El w0 => #[Value.int .i64 (x.i : Int), x.v]) (KpB m Bn) (fun xs => Came K xs ∧ xs.length = K.length) (fun _ => True) K.length w := fun l J Jx W hW _ _ hY h0 => by
  have hcW : W.cell? ⟨Bn, 0, none⟩ = some sv := (hW.cell (p := ⟨Bn, 0, none⟩) hBn).trans hcell
  have hbW : Below m w W := hW.mono hm
  obtain ⟨a, cap, rfl, hc1, hc2, hc3⟩ := hT.shape
  have hlen : (K.length : Int) ≤ 9223372036854775807 := by omega
  refine callsIn_of_wp Tryd.func119 rfl hF ?_ hro
  simp only [Tryd.ntmps119, List.size_toArray, List.length_cons, List.length_nil, Nat.reduceAdd, Nat.reduceSub, Array.replicate_succ, Array.replicate_zero, List.push_toArray, List.append_toArray, List.nil_append, List.cons_append]
  gi_wp2
  gi_loopw [3] (fun i wr => ∃ (k : Nat) (pre : List (El w0)), k + pre.length = K.length ∧ i = .int .i64 ((k : Int) - 1) ∧ Came K pre ∧ J pre wr ∧ KpB m Bn W wr)
    (fun i _ => (intOf i + 1).toNat)
  case atStart => exact ⟨K.length, [], by simp, rfl, Came.nil K, h0, KpB.refl _ _ _⟩
  case round =>
    obtain ⟨k, pre, hk, rfl, hcm, hJ, hKp⟩ := hrel
    cases k with
    | zero =>
      gi_wp2
      go_end0
      exact ⟨⟨_, rfl⟩, .inl ⟨pre, ⟨hcm, by omega⟩, hJ⟩⟩
    | succ q =>
      rw [show ((q + 1 : Nat) : Int) - 1 = (q : Int) by omega]
      have hqk : q < K.length := by omega
      have hqk' : (q : Int) < (K.length : Int) := by omega
      obtain ⟨b, off, v, rfl, hlt, h6, hv⟩ := hT.at q hqk
      have hcB : wr.cell? ⟨Bn, 0, none⟩ = some (.slice (some ⟨b, off, none⟩) K.length cap) := by
        rw [World.cell?_of_block (w := W) (a := ⟨Bn, 0, none⟩) hKp.2]; exact hcW
      replace h6 := h6.cells (hb wr (hbW.trans hKp.1))
      have hcm2 : Came K (pre ++ [⟨q, v, K[q], hv⟩]) := hcm.more ⟨q, v, K[q], hv⟩ (by show q + pre.length + 1 = K.length; omega) (by simp [hqk])
      obtain ⟨fn, tmps, assign, body, hy, hR⟩ := hY pre ⟨q, v, K[q], hv⟩ wr hJ (by omega)
      dsimp only at hy
      obtain ⟨e0, e1, e2, e3, e4, e5, rfl, p0, p1, p2, p3, p4, p5⟩ := h6
      gi_wp2
      refine hR.mono ?_
      rintro e W3 (⟨rfl, hJ3, hk3⟩ | ⟨rfl, hJx3⟩)
      · gi_wp2
        go_roundw
        case rel => exact ⟨q, _, by simp; omega, rfl, hcm2, hJ3, hKp.trans hk3⟩
        case measure => simp [intOf]
      · gi_wp2
        refine bodyPost_ret (results_none rfl _ _ _) rfl ?_
        exact ⟨⟨_, rfl⟩, .inr ⟨_, trivial, hJx3⟩⟩

/-- What the loop's trees may lie in. -/
def VQ (P : Nat → Bool) (w : World) (a b : Nat) : Nat → Bool := fun k => (P k && decide (k < w.heap.size)) || (decide (w.heap.size ≤ k) && (decide (k ≠ a) && decide (k ≠ b)))
theorem VQ_ne {P : Nat → Bool} {w : World} {a b k : Nat} (h : VQ P w a b k = true) (ha : w.heap.size ≤ a) (hb : w.heap.size ≤ b) : k ≠ a ∧ k ≠ b := by
  unfold VQ at h
  rw [Bool.or_eq_true, Bool.and_eq_true, Bool.and_eq_true, Bool.and_eq_true, decide_eq_true_eq, decide_eq_true_eq, decide_eq_true_eq, decide_eq_true_eq] at h
  rcases h with ⟨_, h⟩ | ⟨_, h⟩
  · omega
  · exact h
theorem VQ_new {P : Nat → Bool} {w : World} {a b k : Nat} (h : w.heap.size ≤ k) (ha : k ≠ a) (hb : k ≠ b) : VQ P w a b k = true := by simp [VQ, h, ha, hb]
theorem VQ_old {P : Nat → Bool} {w : World} {a b k : Nat} (h : P k = true) (hk : k < w.heap.size) : VQ P w a b k = true := by simp [VQ, h, hk]
/-- The old ones, and all from b on. -/
def orB (P : Nat → Bool) (b : Nat) : Nat → Bool := fun k => P k || decide (b ≤ k)
theorem VQ_out {P : Nat → Bool} {w : World} {a b k : Nat} (h : VQ P w a b k = true) : orB P w.heap.size k = true := by
  unfold VQ at h
  unfold orB
  rw [Bool.or_eq_true, Bool.and_eq_true, Bool.and_eq_true] at h
  rcases h with ⟨h, _⟩ | ⟨h, _⟩ <;> simp_all
theorem IsT.vq {P : Nat → Bool} {w0 : World} {a b : Nat} {w w' : World} {t : Tm} {v : Value} (h : IsT (veil (VQ P w0 a b) w) t v) (ha : w0.heap.size ≤ a) (hb : w0.heap.size ≤ b) (hs : w.heap.size ≤ w'.heap.size) (hc : ∀ x u, x.block ≠ a → x.block ≠ b → w.cell? x = some u → w'.cell? x = some u) : IsT (veil (VQ P w0 a b) w') t v := by
  refine h.cells (by rw [veil_size, veil_size]; exact hs) (fun x u hx => ?_)
  obtain ⟨h1, h2⟩ := veil_cell hx
  obtain ⟨h3, h4⟩ := VQ_ne h1 ha hb
  exact veil_put h1 (hc x u h3 h4 h2)
theorem IsT.toVQ {P : Nat → Bool} {a b : Nat} {w w' : World} {t : Tm} {v : Value} (h : IsT (veil P w) t v) (hb : Below w.heap.size w w') (h1 : w.heap.size ≤ a) (h2 : w.heap.size ≤ b) : IsT (veil (VQ P w a b) w') t v := by
  refine h.cells (by rw [veil_size, veil_size]; exact hb.size) (fun x u hx => ?_)
  obtain ⟨h3, h4⟩ := veil_cell hx
  have hlt := World.block_lt_of_cell? w x h4
  exact veil_put (VQ_old h3 hlt) ((hb.cell hlt).trans h4)

/-- The loop's state: the tail's box at gT, the result's at gR, the iterator's cell at Bn. -/
def LvI (P : Nat → Bool) (w : World) (t : Tm) (sv : Value) (gT gR Bn : Nat) (pre : List (El (veil P w))) (W : World) : Prop :=
  (∃ k n sl S N sk, Bt W gT k n sl S N sk ∧ IsT (veil (VQ P w gT gR) W) (curT t pre) (tmV k n sl S N sk)) ∧ Bt W gR 0 false (.slice none 0 0) ⟨#[]⟩ 0 (.slice none 0 0) ∧ W.heap[Bn]? = some (.cells #[sv] 27 (0, 0)) ∧ Below w.heap.size w W ∧ Bn + 1 ≤ W.heap.size

theorem LvI.own {P : Nat → Bool} {w : World} {t : Tm} {sv : Value} {gT gR Bn : Nat} {pre : List (El (veil P w))} {W W' : World} {row : Option Nat} (h : LvI P w t sv gT gR Bn pre W) (hg : W.grownBy W' row) (h1g : w.heap.size ≤ gT) (h2g : w.heap.size ≤ gR) (hr : ∀ r, row = some r → w.heap.size ≤ r ∧ ∃ o, W.heap[r]? = some o ∧ o.isCells = false) : LvI P w t sv gT gR Bn pre W' := by
  obtain ⟨⟨k, n, sl, S, N, sk, hT, hI⟩, hR, hB, hbl, hs⟩ := h
  have hr2 : ∀ r, row = some r → ∃ o, W.heap[r]? = some o ∧ o.isCells = false := fun r e => (hr r e).2
  refine ⟨⟨k, n, sl, S, N, sk, hT.kept hg hr2, ?_⟩, hR.kept hg hr2, ?_, ?_, Nat.le_trans hs hg.size⟩
  · refine hI.vq h1g h2g hg.size (fun a u _ _ ha => ?_)
    have hlt := World.block_lt_of_cell? W a ha
    rw [World.cell?_of_block (w := W) (hg.block a.block hlt (fun e => ?_))]
    · exact ha
    · obtain ⟨o, h1, h2⟩ := hr2 _ e.symm
      unfold World.cell? at ha
      rw [h1] at ha
      cases o <;> simp [Obj.isCells] at h2 <;> simp at ha
  · rw [hg.block _ (Array.getElem?_eq_some_iff.1 hB).1 (fun e => ?_)]
    · exact hB
    · obtain ⟨o, h1, h2⟩ := hr2 _ e.symm
      rw [hB] at h1
      cases h1
      cases h2
  · exact ⟨hg.os.trans hbl.os, hg.tape.trans hbl.tape, hg.output.trans hbl.output, Nat.le_trans hbl.size hg.size, fun i hi => (hg.block i (Nat.lt_of_lt_of_le hi hbl.size) (fun e => by have := (hr i e.symm).1; omega)).trans (hbl.block i hi)⟩

/-- One round. -/
theorem LvI.step {P : Nat → Bool} {w : World} {t : Tm} {sv : Value} {gT gR Bn : Nat} {pre : List (El (veil P w))} {W : World} (x : El (veil P w)) {c0 c1 c2 c3 c4 c5 : Value} (hx : x.v = .agg #[c0, c1, c2, c3, c4, c5]) {k : Int} {n : Bool} {sl : Value} {S : ByteArray} {N : Int} {sk : Value}
    (hT : Bt W gT k n sl S N sk) (hI : IsT (veil (VQ P w gT gR) W) (curT t pre) (tmV k n sl S N sk)) (hR : Bt W gR 0 false (.slice none 0 0) ⟨#[]⟩ 0 (.slice none 0 0)) (hB : W.heap[Bn]? = some (.cells #[sv] 27 (0, 0))) (hbl : Below w.heap.size w W) (hs : Bn + 1 ≤ W.heap.size) (h1 : w.heap.size ≤ gT) (h1' : w.heap.size ≤ gR) (h2 : gT ≠ gR) (h3 : gT ≠ Bn) :
    LvI P w t sv gT gR Bn (pre ++ [x]) ((setBt W gT 4 false (.slice none 0 0) ⟨#[]⟩ 0 (.slice (some ⟨W.heap.size, 0, none⟩) 2 2)).alloc (.cells #[c0, c1, c2, c3, c4, c5, .int .i64 k, .bool n, sl, .string S, .int .i64 N, sk] 29)) := by
  have hlt := hT.lt
  have b1 := (Below.refl W.heap.size W).alloc (Nat.le_refl _) (.cells #[c0, c1, c2, c3, c4, c5, .int .i64 k, .bool n, sl, .string S, .int .i64 N, sk] 29)
  have bt := setBt_but (W.alloc (.cells #[c0, c1, c2, c3, c4, c5, .int .i64 k, .bool n, sl, .string S, .int .i64 N, sk] 29)) gT 4 false (.slice none 0 0) ⟨#[]⟩ 0 (.slice (some ⟨W.heap.size, 0, none⟩) 2 2)
  rw [← setBt_past hlt]
  have hbW : Below w.heap.size w (W.alloc (.cells #[c0, c1, c2, c3, c4, c5, .int .i64 k, .bool n, sl, .string S, .int .i64 N, sk] 29)) := hbl.alloc hbl.size _
  refine ⟨⟨_, _, _, _, _, _, (hT.under b1).set 4 false (.slice none 0 0) ⟨#[]⟩ 0 (.slice (some ⟨W.heap.size, 0, none⟩) 2 2) ⟨_, _, _, rfl⟩ ⟨_, _, _, rfl⟩, ?_⟩, (hR.under b1).other bt h2.symm, ?_, hbW.trans (bt.below h1), ?_⟩
  · have hRl := hR.lt
    refine IsT.vq (w := W.alloc (.cells #[c0, c1, c2, c3, c4, c5, .int .i64 k, .bool n, sl, .string S, .int .i64 N, sk] 29)) ?_ h1 h1' (Nat.le_of_eq bt.size.symm) (fun x u hx1 hx2 hx => by rw [World.cell?_of_block (w := W.alloc (.cells #[c0, c1, c2, c3, c4, c5, .int .i64 k, .bool n, sl, .string S, .int .i64 N, sk] 29)) (bt.block _ hx1)]; exact hx)
    have hh : (veil (VQ P w gT gR) (W.alloc (.cells #[c0, c1, c2, c3, c4, c5, .int .i64 k, .bool n, sl, .string S, .int .i64 N, sk] 29))).heap[W.heap.size]? = some (.cells #[c0, c1, c2, c3, c4, c5, .int .i64 k, .bool n, sl, .string S, .int .i64 N, sk] 29 (0, 0)) := by
      rw [veil_block (VQ_new (by have := hbl.size; omega) (by omega) (by omega))]; exact heap_alloc_new W _
    have hx1 := x.h
    rw [hx] at hx1
    rw [curT_snoc]
    exact IsT.shut (by omega) (by omega) (by decide) (Sl.nil _) (Ts.lit2 hh (hx1.toVQ hbW h1 h1') (hI.vq h1 h1' b1.size (fun x u _ _ hx => (b1.cell (World.block_lt_of_cell? W x hx)).trans hx)))
  · rw [bt.block Bn h3.symm, b1.block Bn (by omega)]; exact hB
  · rw [bt.size]; simp; omega

def LnPost (P : Nat → Bool) (w : World) (t : Tm) (e : Ending) (w' : World) : Prop := ∃ v, e = .returned v ∧ IsT (veil (orB P w.heap.size) w') t v ∧ Below w.heap.size w w'

set_option maxRecDepth 100000 in
set_option maxHeartbeats 4000000 in
theorem list_new (P : Nat → Bool) (sv tv : Value) (K : List Tm) (t : Tm) (w : World) (hS : Ts (veil P w) sv K) (ht : IsT (veil P w) t tv) : Calls Tryd.prog 133 #[sv, tv] w fun e w' => LnPost P w (listT K t) e w' := by
  have ht0 := ht
  obtain ⟨sl, sk, rfl, hl, hk, -, -, -⟩ := ht.open
  obtain ⟨pl, cl, rfl⟩ := hl.shape
  obtain ⟨pk, ck, rfl, -⟩ := hk.shape
  obtain ⟨pv, nv, cv, rfl⟩ := hS.isS
  clear hl hk ht
  refine (callsIn_wide (n := 4)).1 ?_
  refine callsIn_of_wp_marks Tryd.func133 rfl trivial ?_ rfl
  simp only [Tryd.ntmps133, List.size_toArray, List.length_cons, List.length_nil, Nat.reduceAdd, Nat.reduceSub, Array.replicate_succ, Array.replicate_zero, List.push_toArray, List.append_toArray, List.nil_append, List.cons_append]
  simp only [tmV] at *
  gi_wp2_with fail
  refine ⟨trivial, ?_⟩
  refine (callsIn_wide.2 (back_any _ _ ⟨_, _, _, rfl⟩)).mono ?_
  rintro ed wB ⟨rfl, hwB⟩
  have hB0 : Below w.heap.size w wB := by
    rw [hwB]
    exact (((Below.refl w.heap.size w).alloc (Nat.le_refl _) _).alloc (by simp) _).alloc (by simp; omega) _
  have uT : Bt wB w.heap.size t.kind t.neg (.slice pl t.limbs.length cl) t.str t.num (.slice pk t.kids.length ck) := by
    rw [hwB]
    exact (Bt.new w t.kind t.neg (.slice pl t.limbs.length cl) t.str t.num (.slice pk t.kids.length ck) ⟨_, _, _, rfl⟩ ⟨_, _, _, rfl⟩).under (((Below.refl _ _).alloc (Nat.le_refl _) _).alloc (by simp) _)
  have uR : Bt wB (w.heap.size + 1) 0 false (.slice none 0 0) ⟨#[]⟩ 0 (.slice none 0 0) := by
    rw [hwB]
    have := (Bt.new (w.alloc (.cells #[.int .i64 t.kind, .bool t.neg, .slice pl t.limbs.length cl, .string t.str, .int .i64 t.num, .slice pk t.kids.length ck] 29)) 0 false (.slice none 0 0) ⟨#[]⟩ 0 (.slice none 0 0) ⟨_, _, _, rfl⟩ ⟨_, _, _, rfl⟩).under ((Below.refl _ _).alloc (Nat.le_refl _) (.cells #[.slice pv nv cv] 27))
    rwa [World.size_alloc] at this
  have hbn : wB.heap[w.heap.size + 1 + 1]? = some (.cells #[.slice pv nv cv] 27 (0, 0)) := by
    rw [hwB]
    have := heap_alloc_new ((w.alloc (.cells #[.int .i64 t.kind, .bool t.neg, .slice pl t.limbs.length cl, .string t.str, .int .i64 t.num, .slice pk t.kids.length ck] 29)).alloc (.cells #[.int .i64 0, .bool false, .slice none 0 0, .string ⟨#[]⟩, .int .i64 0, .slice none 0 0] 29)) (.cells #[.slice pv nv cv] 27)
    rwa [World.size_alloc, World.size_alloc] at this
  have hsB : wB.heap.size = w.heap.size + 1 + 1 + 1 := by rw [hwB]; simp
  rw [World.size_alloc, World.size_alloc]
  clear hwB
  have hst : LvI P w t (.slice pv nv cv) w.heap.size (w.heap.size + 1) (w.heap.size + 1 + 1) [] wB := ⟨⟨_, _, _, _, _, _, uT, ht0.toVQ hB0 (Nat.le_refl _) (by omega)⟩, uR, hbn, hB0, by omega⟩
  clear uT uR
  gi_wp2_with fail
  refine wpIn_rangeFunc_ownH (α := El (veil P w)) rfl (by omega) (gf := 119) (lb := #[.pointer (some ⟨w.heap.size + 1 + 1, 0, none⟩)]) rfl trivial (enters_of Tryd.func119 (by kernel_rfl) rfl)
    (back_stopsV Fence.wide 3 trivial rfl (by omega) (w.heap.size + 1 + 1) _ K (veil P w) wB w.heap.size (by omega) hS (fun W hW a u ha => (hW.cell (by have := veil_lt ha; omega)).trans ((hB0.cell (veil_lt ha)).trans (veil_cell ha).2)) (by omega) (cell_of_row wB (w.heap.size + 1 + 1) 0 _ _ _ hbn)) KpB.trans
    (fun W l o o' hl h1 h2 h3 => ⟨belowK_b (w := wB) (by omega) W l o o' hl h1 h2 h3, World.putObj_heap_other (by omega)⟩) (Below.refl _ _) (fun _ => rfl)
    (fun pre W => LvI P w t (.slice pv nv cv) w.heap.size (w.heap.size + 1) (w.heap.size + 1 + 1) pre W)
    (fun _ _ _ => False) ?hI (fun _ _ _ _ _ h _ _ => h) hst
    (fun x a' W => ∃ bt c0 c1 c2 c3 c4 c5, x.v = .agg #[c0, c1, c2, c3, c4, c5] ∧ a' = { tmps := #[.slice pv nv cv, .agg #[.int .i64 t.kind, .bool t.neg, .slice pl t.limbs.length cl, .string t.str, .int .i64 t.num, .slice pk t.kids.length ck], undef, .pointer (some ⟨w.heap.size, 0, none⟩), .pointer (some ⟨w.heap.size + 1, 0, none⟩), undef, .pointer (some ⟨bt, 0, none⟩), .slice pv nv cv, .func (.func 119) #[] #[.pointer (some ⟨w.heap.size + 1 + 1, 0, none⟩)], .int .i64 (x.i : Int), x.v, undef, undef, undef, undef, undef], defers := [] } ∧ W.heap[bt]? = some (.cells #[c0, c1, c2, c3, c4, c5] 29 (0, 0)) ∧ wB.heap.size ≤ bt)
    ?hAx ?assign ?body ?done ?stop
  case hI =>
    rintro pre W W' row hI hg hr
    exact hI.own hg (Nat.le_refl _) (by omega) (fun r e => ⟨by have := (hr r e).1; omega, (hr r e).2⟩)
  case hAx =>
    rintro x a' - W W' row ⟨bt, c0, c1, c2, c3, c4, c5, hx, ha, hbt, hle⟩ hg hr
    refine ⟨bt, c0, c1, c2, c3, c4, c5, hx, ha, ?_, hle⟩
    rw [hg.block _ (Array.getElem?_eq_some_iff.1 hbt).1 (cells_not (r := 0) (fun r e => (hr r e).2) hbt)]; exact hbt
  case assign =>
    rintro l pre ⟨i, v, u, hx⟩ W K' hI hK
    obtain ⟨sl2, sk2, rfl, hxl, hxk, -, -, -⟩ := hx.open
    obtain ⟨pl2, cl2, rfl⟩ := hxl.shape
    obtain ⟨pk2, ck2, rfl, -⟩ := hxk.shape
    have HKX : Hid _ := hK
    clear hK
    dsimp only [tmV]
    gi_wp2
    have hsz := hI.2.2.2.2
    have hws := hI.2.2.2.1.size
    refine HKX.out _ _ ((KeepsOthers.alloc _ _).from _) ⟨(Below.refl _ W).alloc (by omega) _, Below.heap_alloc _ _ _ (by omega)⟩ (hI.own (World.grownBy_alloc W _ none) (Nat.le_refl _) (by omega) (fun r e => by cases e)) ⟨W.heap.size, _, _, _, _, _, _, rfl, rfl, heap_alloc_new W _, by omega⟩
  case body =>
    rintro l pre ⟨i, v, u, hx⟩ a' W hll ⟨r, hr⟩ ⟨⟨k, n, sl, S, N, sk, hT, hI⟩, hR, hBn, hbl, hsz⟩ ⟨bt, c0, c1, c2, c3, c4, c5, hv, rfl, hbt, hle⟩ hlt
    dsimp only at hv ⊢
    subst hv
    obtain ⟨sl2, sk2, hve, hxl, hxk, -, -, -⟩ := hx.open
    obtain ⟨pl2, cl2, rfl⟩ := hxl.shape
    obtain ⟨pk2, ck2, rfl, -⟩ := hxk.shape
    simp only [tmV, Value.agg.injEq, List.toArray_inj, List.cons.injEq, and_true] at hve
    obtain ⟨rfl, rfl, rfl, rfl, rfl, rfl⟩ := hve
    clear hxl hxk
    have HS : Hid _ := LvI.step (P := P) (w := w) (t := t) (sv := .slice pv nv cv) (gR := w.heap.size + 1) (Bn := w.heap.size + 1 + 1) (pre := pre) ⟨i, .agg #[.int .i64 u.kind, .bool u.neg, .slice pl2 u.limbs.length cl2, .string u.str, .int .i64 u.num, .slice pk2 u.kids.length ck2], u, hx⟩ rfl hT hI hR hBn hbl hsz (Nat.le_refl _) (by omega) (by omega) (by omega)
    have HBT : Hid (Bt W w.heap.size k n sl S N sk) := hT
    obtain ⟨⟨p1, m1, q1, e1⟩, ⟨p2, m2, q2, e2⟩⟩ := hT.2
    subst e1 e2
    obtain ⟨t0, t1, t2, t3, t4, t5⟩ := hT.cells
    obtain ⟨f0, f1, f2, f3, f4, f5⟩ := hT.froz
    have hTl := hT.lt
    have uH : Bt W bt u.kind u.neg (.slice pl2 u.limbs.length cl2) u.str u.num (.slice pk2 u.kids.length ck2) := ⟨hbt, ⟨_, _, _, rfl⟩, ⟨_, _, _, rfl⟩⟩
    obtain ⟨h0, h1, h2, h3, h4, h5⟩ := uH.cells
    have hws := hbl.size
    have HNE : Hid (bt ≠ w.heap.size) := by show bt ≠ w.heap.size; omega
    clear hT hI hR hr uH hbt
    gi_wp2
    have hbu := setBt_but W w.heap.size 4 false (.slice none 0 0) ⟨#[]⟩ 0 (.slice (some ⟨W.heap.size, 0, none⟩) 2 2)
    refine ⟨((setBt_others W w.heap.size 4 false (.slice none 0 0) ⟨#[]⟩ 0 (.slice (some ⟨W.heap.size, 0, none⟩) 2 2)).trans (KeepsOthers.alloc _ _)).from _, ⟨?_, ?_⟩, HS.out⟩
    · exact (hbu.below (Nat.le_refl _)).alloc (by rw [show (setBt W w.heap.size 4 false (.slice none 0 0) ⟨#[]⟩ 0 (.slice (some ⟨W.heap.size, 0, none⟩) 2 2)).heap.size = W.heap.size from hbu.size]; omega) _
    · have hsb := hbu.size
      exact (Below.heap_alloc (setBt W w.heap.size 4 false (.slice none 0 0) ⟨#[]⟩ 0 (.slice (some ⟨W.heap.size, 0, none⟩) 2 2)) _ _ (by omega)).trans (hbu.block _ (by omega))
  case done =>
    rintro D xs W hD ⟨hcm, hxl⟩ ⟨⟨k, n, sl, S, N, sk, hT, hI⟩, hR, hBn, hbl, hsz⟩ hDD
    have HI2 : Hid (IsT (veil (VQ P w w.heap.size (w.heap.size + 1)) W) (listT K t) (tmV k n sl S N sk)) := by rw [← curT_all hcm hxl]; exact hI
    obtain ⟨⟨p1, m1, q1, e1⟩, ⟨p2, m2, q2, e2⟩⟩ := hT.2
    subst e1 e2
    obtain ⟨t0, t1, t2, t3, t4, t5⟩ := hT.cells
    obtain ⟨r0, r1, r2, r3, r4, r5⟩ := hR.cells
    obtain ⟨f0, f1, f2, f3, f4, f5⟩ := hR.froz
    have hTl := hT.lt
    have hRl := hR.lt
    clear hI
    gi_wp2_with fail
    have hbu := setBt_but W (w.heap.size + 1) k n (.slice p1 m1 q1) S N (.slice p2 m2 q2)
    have hD2 := (setBt_others W (w.heap.size + 1) k n (.slice p1 m1 q1) S N (.slice p2 m2 q2)).same D _ hDD rfl
    have hB2 := hR.set k n (.slice p1 m1 q1) S N (.slice p2 m2 q2) ⟨_, _, _, rfl⟩ ⟨_, _, _, rfl⟩
    have hgp := grownBy_putObj' (setBt W (w.heap.size + 1) k n (.slice p1 m1 q1) S N (.slice p2 m2 q2)) D (.deferred none)
    have i2 : IsT (veil (VQ P w w.heap.size (w.heap.size + 1)) (setBt W (w.heap.size + 1) k n (.slice p1 m1 q1) S N (.slice p2 m2 q2))) (listT K t) (tmV k n (.slice p1 m1 q1) S N (.slice p2 m2 q2)) :=
      HI2.out.vq (Nat.le_refl _) (by omega) (Nat.le_of_eq hbu.size.symm) (fun x u _ h2 hx => by rw [World.cell?_of_block (w := W) (hbu.block _ h2)]; exact hx)
    refine ⟨by simp, .inl ⟨_, _, rfl, run_takeDeferred hD2, ?_⟩⟩
    refine ⟨_, results_bt1 rfl _ _ (w.heap.size + 1) k n (.slice p1 m1 q1) S N (.slice p2 m2 q2) rfl (hB2.kept hgp (fun r e => by cases e; exact ⟨_, hD2, rfl⟩)), ?_⟩
    refine ⟨_, rfl, i2.cells (by rw [veil_size, veil_size]; exact hgp.size) (fun x u hx => ?_), ?_⟩
    · obtain ⟨hq, hx⟩ := veil_cell hx
      refine veil_put (VQ_out hq) ?_
      have hlt := World.block_lt_of_cell? _ x hx
      refine (World.cell?_of_block (w := setBt W (w.heap.size + 1) k n (.slice p1 m1 q1) S N (.slice p2 m2 q2)) (hgp.block x.block hlt (fun e => ?_))).trans hx
      injection e with e
      unfold World.cell? at hx
      rw [e, hD2] at hx
      simp at hx
    · refine (hbl.trans (hbu.below (by omega))).trans ⟨hgp.os, hgp.tape, hgp.output, hgp.size, fun i hi => hgp.block i (by rw [hbu.size]; omega) (fun e => by injection e with e; omega)⟩
  case stop =>
    rintro D c pre W _ _ h _
    exact h.elim
end Go.Proofs.YtbmondbicnfcpaaDoor


/-
  ext: shut.
-/
namespace Go.Proofs.YtbmondbicnfcpaaDoor
open Go.RowKit
set_option linter.unusedVariables false
set_option linter.unusedSimpArgs false

/-- A row of terms, each of which is read. -/
theorem row_tv {w : World} {base : Nat} {v : Value} {ps : List (Value × Tm)} (hw : WaitT w base v ps) (h : ∀ p ∈ ps, IsT w p.2 p.1) : Ts w v (ps.map Prod.snd) := by
  rcases hw.2 with ⟨rfl, h1⟩ | ⟨g, cap, cur, rfl, hb, hh, hn, hc, _, _⟩
  · obtain rfl : ps = [] := List.eq_nil_of_length_eq_zero h1
    exact Ts.nil w
  · have hl : (ps.map Prod.snd).length = ps.length := by simp
    refine ⟨some ⟨g, 0, none⟩, cap, fun i => (ps.map Prod.fst).getD i (.bool false), by rw [hl], ⟨by rw [hl]; exact hn, by unfold maxLen at hc; omega, fun e => (by cases e), fun _ => ⟨g, 0, rfl, (Array.getElem?_eq_some_iff.1 hh).1, fun i hi => ?_⟩⟩, fun i hi => ?_⟩
    · rw [hl] at hi
      have h6 : ∀ p ∈ ps, (cells6 p.1).length = 6 := fun p hp => (h p hp).six
      have hc : ∀ j, j < 6 → w.cell? ⟨g, i * 6 + j, none⟩ = (cells6 ps[i].1)[j]? := fun j hj => by
        rw [World.ownsRow.cellAt hw (i * 6 + j) (by omega), flat_got ps h6 i j hi hj]
      obtain ⟨sl, sk, h1, -⟩ := (h ps[i] (List.getElem_mem hi)).open
      rw [h1] at hc
      have e : (ps.map Prod.fst).getD i (.bool false) = ps[i].1 := by simp [List.getD, hi]
      show At6 w g (0 + i * 6) ((ps.map Prod.fst).getD i (.bool false))
      rw [e, h1, Nat.zero_add]
      exact ⟨_, _, _, _, _, _, rfl, (hc 0 (by omega)).trans rfl, (hc 1 (by omega)).trans rfl, (hc 2 (by omega)).trans rfl, (hc 3 (by omega)).trans rfl, (hc 4 (by omega)).trans rfl, (hc 5 (by omega)).trans rfl⟩
    · rw [hl] at hi
      have := h ps[i] (List.getElem_mem hi)
      simpa [List.getD, hi] using this
theorem WaitT.see {w w' : World} {base : Nat} {v : Value} {ps : List (Value × Tm)} (h : WaitT w base v ps) (hb : ∀ b, v.ownBlock = some b → w'.heap[b]? = w.heap[b]?) : WaitT w' base v ps := by
  obtain ⟨h1, h2⟩ := h
  refine ⟨h1, ?_⟩
  rcases h2 with h3 | ⟨g, cap, cur, rfl, hb1, hh, h4⟩
  · exact .inl h3
  · exact .inr ⟨g, cap, cur, rfl, hb1, by rw [hb g rfl]; exact hh, h4⟩
theorem HoRow.see {w w' : World} {base : Nat} {ov : Value} {hs : List Ho} (h : HoRow w base ov hs) (hb : ∀ b, ov.ownBlock = some b → w'.heap[b]? = w.heap[b]?) : HoRow w' base ov hs := by
  obtain ⟨⟨h1, h2⟩, h3⟩ := h
  refine ⟨⟨h1, ?_⟩, h3⟩
  rcases h2 with h4 | ⟨k, cap, cur, rfl, hb1, hh, h5⟩
  · exact .inl h4
  · exact .inr ⟨k, cap, cur, rfl, hb1, by rw [hb k rfl]; exact hh, h5⟩
/-- The last one is taken off. -/
theorem HoRow.less {w : World} {base : Nat} {a : Option Addr} {n c : Nat} {hs : List Ho} {h : Ho} (hr : HoRow w base (.slice a n c) (hs ++ [h])) : HoRow w base (.slice a hs.length c) hs := by
  obtain ⟨⟨h1, h2⟩, h3⟩ := hr
  refine ⟨⟨by rw [flatH_len], ?_⟩, fun x hx => h3 x (List.mem_append_left _ hx)⟩
  rcases h2 with ⟨he, h4⟩ | ⟨k, cap, cur, he, hb1, hh, hn, hm, hsz, ht⟩
  · simp at h4
  · injection he with e1 e2 e3
    subst e1; subst e3
    refine .inr ⟨k, c, cur, rfl, hb1, hh, by simp at hn; omega, hm, hsz, ?_⟩
    have ht2 := congrArg (List.take (hs.length * 4)) ht
    rw [List.take_take, flatH_app, List.take_append_of_le_length (by rw [flatH_len]; exact Nat.le_refl _)] at ht2
    rw [show min (hs.length * 4) ((hs ++ [h]).length * 4) = hs.length * 4 by simp] at ht2
    rw [ht2, List.take_of_length_le (by rw [flatH_len]; exact Nat.le_refl _)]
/-- The stack in memory: its row, its parts' rows, the trees in them, which lie in blocks of P. -/
def StI (W0 : World) (B g : Nat) (hs : List Ho) (ov : Value) (P : Nat → Bool) (w : World) : Prop :=
  Below W0.heap.size W0 w ∧ Shp w ∧ HoRow w B ov hs ∧ (∀ h ∈ hs, WaitT w B h.pv h.ps ∧ ∀ q ∈ h.ps, IsT (veil P w) q.2 q.1) ∧
  (∀ b, P b = true → b < w.heap.size ∧ B ≤ b) ∧ (∀ b, ov.ownBlock = some b → P b = false) ∧ (∀ h ∈ hs, ∀ b, h.pv.ownBlock = some b → P b = false) ∧
  (∀ (i j : Nat) (hi : i < hs.length) (hj : j < hs.length), i < j → ∀ b, hs[i].pv.ownBlock = some b → hs[j].pv.ownBlock ≠ some b)
theorem HoRow.lt {w : World} {base : Nat} {ov : Value} {hs : List Ho} (h : HoRow w base ov hs) : ∀ b, ov.ownBlock = some b → base ≤ b ∧ b < w.heap.size ∧ ∃ cur, w.heap[b]? = some (.cells cur 113 (0, 0)) := by
  intro b hb
  rcases h.1.2 with ⟨rfl, _⟩ | ⟨k, cap, cur, rfl, hb1, hh, _⟩
  · cases hb
  · injection hb with hb; subst hb
    exact ⟨hb1, (Array.getElem?_eq_some_iff.1 hh).1, cur, hh⟩
theorem WaitT.lt {w : World} {base : Nat} {v : Value} {ps : List (Value × Tm)} (h : WaitT w base v ps) : ∀ b, v.ownBlock = some b → base ≤ b ∧ b < w.heap.size ∧ ∃ cur, w.heap[b]? = some (.cells cur 29 (0, 0)) := by
  intro b hb
  rcases h.2 with ⟨rfl, _⟩ | ⟨k, cap, cur, rfl, hb1, hh, _⟩
  · cases hb
  · injection hb with hb; subst hb
    exact ⟨hb1, (Array.getElem?_eq_some_iff.1 hh).1, cur, hh⟩
/-- What was not the reader's box stands: so does the stack. -/
theorem StI.grw {W0 : World} {B g : Nat} {hs : List Ho} {ov : Value} {P Q : Nat → Bool} {w w' : World} (h : StI W0 B g hs ov P w) (hgB : g < B) (hW : W0.heap.size ≤ g) (hsh : Shp w') (hg : Grw g w w')
    (hPQ : ∀ b, P b = true → Q b = true) (hQ : ∀ b, Q b = true → b < w'.heap.size ∧ B ≤ b) (hQo : ∀ b, ov.ownBlock = some b → Q b = false) (hQp : ∀ h ∈ hs, ∀ b, h.pv.ownBlock = some b → Q b = false) : StI W0 B g hs ov Q w' := by
  obtain ⟨h1, h2, h3, h4, h5, h6, h7, h8⟩ := h
  have hWs := h1.size
  refine ⟨h1.trans (hg.below hW hWs), hsh, h3.see (fun b hb => hg.block b (h3.lt b hb).2.1 (by have := (h3.lt b hb).1; omega)), fun x hx => ⟨(h4 x hx).1.see (fun b hb => hg.block b ((h4 x hx).1.lt b hb).2.1 (by have := ((h4 x hx).1.lt b hb).1; omega)), fun q hq => ((h4 x hx).2 q hq).veiled hg.size (fun b hb hlt => ⟨hg.block b hlt (by have := (h5 b hb).2; omega), hPQ b hb⟩)⟩, hQ, hQo, hQp, h8⟩

end Go.Proofs.YtbmondbicnfcpaaDoor


/-
  ext: shut.
-/
namespace Go.Proofs.YtbmondbicnfcpaaDoor
open Go.RowKit
set_option linter.unusedVariables false
set_option linter.unusedSimpArgs false

def Ho.pl (h : Ho) : Hp := ⟨h.kind, h.depth, h.ps.map Prod.snd, h.want⟩
/-- shut's answer. -/
def ShP (W0 : World) (B g : Nat) (hs : List Ho) (bv : Value) (p n : Nat) (P0 : Nat → Bool) (pv : Value) (R : Rs) (w : World) (e : Ending) (w' : World) : Prop :=
  ∃ v, e = .returned (.tuple #[v, .int .i64 (R.e : Int)]) ∧ Grw g w w' ∧ IsS6 v ∧ (R.e = 0 → ∃ ov P, RdX w' g bv p n ov ∧ StI W0 B g hs ov P w' ∧ IsT (veil P w') R.t v ∧ ∀ b, b < w.heap.size → P b = true → P0 b = true ∨ pv.ownBlock = some b)
where IsS6 (v : Value) : Prop := ∃ k ng sl S N sk, v = tmV k ng sl S N sk ∧ IsS sl ∧ IsS sk

theorem Bt.drew {w : World} {g : Nat} {k : Int} {neg : Bool} {sl : Value} {S : ByteArray} {N : Int} {sk : Value} (h : Bt w g k neg sl S N sk) : Bt w.drew g k neg sl S N sk := h
theorem ob_len (a : Option Addr) (m m' c : Nat) : (Value.slice a m c).ownBlock = (Value.slice a m' c).ownBlock := by cases a <;> rfl
theorem StI.less {W0 : World} {B g : Nat} {hs : List Ho} {h : Ho} {a : Option Addr} {m c : Nat} {P : Nat → Bool} {w : World} (hst : StI W0 B g (hs ++ [h]) (.slice a m c) P w) : StI W0 B g hs (.slice a hs.length c) P w := by
  obtain ⟨i1, i2, i3, i4, i5, i6, i7, i8⟩ := hst
  exact ⟨i1, i2, i3.less, fun x hx => i4 x (List.mem_append_left _ hx), i5, fun b hb => i6 b (by rw [ob_len a m hs.length c]; exact hb), fun x hx => i7 x (List.mem_append_left _ hx), fun i j hi hj hij b hb => by
    have := i8 i j (by simp; omega) (by simp; omega) hij b (by rw [List.getElem_append_left hi]; exact hb)
    rwa [List.getElem_append_left hj] at this⟩
/-- The last one's parts lie in a block of their own. -/
theorem StI.own {W0 : World} {B g : Nat} {hs : List Ho} {h : Ho} {ov : Value} {P : Nat → Bool} {w : World} (hst : StI W0 B g (hs ++ [h]) ov P w) : (∀ b, h.pv.ownBlock = some b → P b = false ∧ ov.ownBlock ≠ some b ∧ (∀ x ∈ hs, x.pv.ownBlock ≠ some b) ∧ B ≤ b ∧ b < w.heap.size) := by
  obtain ⟨i1, i2, i3, i4, i5, i6, i7, i8⟩ := hst
  intro b hb
  obtain ⟨l1, l2, cur, l3⟩ := (i4 h (by simp)).1.lt b hb
  refine ⟨i7 h (by simp) b hb, fun e => ?_, fun x hx e => ?_, l1, l2⟩
  · obtain ⟨-, -, cur2, l4⟩ := i3.lt b e
    rw [l3] at l4
    injection l4 with l4
    injection l4 with _ e2 _
    exact absurd e2 (by decide)
  · obtain ⟨i, hi, rfl⟩ := List.getElem_of_mem hx
    have := i8 i hs.length (by simp; omega) (by simp) hi b (by rw [List.getElem_append_left hi]; exact e)
    rw [List.getElem_append_right (Nat.le_refl _)] at this
    simp at this
    exact this hb
/-- The veil with one more block. -/
def andV (P : Nat → Bool) (v : Value) : Nat → Bool := fun b => P b || decide (v.ownBlock = some b)
theorem andV_is {P : Nat → Bool} {v : Value} {b : Nat} : andV P v b = true ↔ P b = true ∨ v.ownBlock = some b := by unfold andV; simp
theorem andV_no {P : Nat → Bool} {v : Value} {b : Nat} (h1 : P b = false) (h2 : v.ownBlock ≠ some b) : andV P v b = false := by unfold andV; rw [h1, decide_eq_false h2]; rfl
theorem StI.shut {W0 : World} {B g : Nat} {hs : List Ho} {h : Ho} {a : Option Addr} {m c : Nat} {P : Nat → Bool} {w w' : World} {bv ov2 : Value} {p n : Int} (hst : StI W0 B g (hs ++ [h]) (.slice a m c) P w) (hx : RdX w g bv p n ov2) (hgB : g < B) (hW : W0.heap.size ≤ g) (hg : Grw g w w') : StI W0 B g hs (.slice a hs.length c) (andV P h.pv) w' := by
  have ho := hst.own
  have hl := hst.less
  obtain ⟨i1, i2, i3, i4, i5, i6, i7, i8⟩ := hst
  refine hl.grw hgB hW (i2.grw hx hg) hg (fun b hb => andV_is.2 (.inl hb)) (fun b hb => ?_) (fun b hb => andV_no (i6 b (by rw [ob_len a m hs.length c]; exact hb)) (fun e => (ho b e).2.1 (by rw [ob_len a m hs.length c]; exact hb))) (fun x hx2 b hb => andV_no (i7 x (List.mem_append_left _ hx2) b hb) (fun e => (ho b e).2.2.1 x hx2 hb))
  rcases andV_is.1 hb with hb | hb
  · have := i5 b hb; have := hg.size; omega
  · obtain ⟨-, -, -, l1, l2⟩ := ho b hb
    have := hg.size
    omega
theorem StI.parts {W0 : World} {B g : Nat} {hs : List Ho} {h : Ho} {ov : Value} {P : Nat → Bool} {w w' : World} (hst : StI W0 B g (hs ++ [h]) ov P w) (hgB : g < B) (hg : Grw g w w') : Ts (veil (andV P h.pv) w') h.pv (h.ps.map Prod.snd) := by
  obtain ⟨i1, i2, i3, i4, i5, i6, i7, i8⟩ := hst
  obtain ⟨hwt, htr⟩ := i4 h (by simp)
  refine row_tv (base := B) (hwt.see (fun b hb => ?_)) (fun q hq => (htr q hq).veiled hg.size (fun b hb hlt => ⟨hg.block b hlt (by have := (i5 b hb).2; omega), andV_is.2 (.inl hb)⟩))
  rw [veil_block (andV_is.2 (.inr hb))]
  obtain ⟨l1, l2, -⟩ := hwt.lt b hb
  exact hg.block b l2 (by omega)

set_option maxRecDepth 100000 in
set_option maxHeartbeats 8000000 in
theorem shut_any (W0 w : World) (B g : Nat) (bv : Value) (p n : Nat) (ov : Value) (hs : List Ho) (h : Ho) (qs : List (Value × Tm)) (vl : Value) (tl : Tm) (P : Nat → Bool) (hx : RdX w g bv p n ov) (hst : StI W0 B g (hs ++ [h]) ov P w) (hps : h.ps = qs ++ [(vl, tl)]) (hw : h.ps.length = h.want) (hgB : g < B) (hWg : W0.heap.size ≤ g) :
    Calls Tryd.prog 83 #[.pointer (some ⟨g, 0, none⟩)] w fun e w' => ShP W0 B g hs bv p n P h.pv (shutT ⟨h.kind, h.depth, qs.map Prod.snd, h.want⟩ tl p n) w e w' := by
  obtain ⟨i1, i2, i3, i4, i5, i6, i7, i8⟩ := hst
  have hhm : h ∈ hs ++ [h] := by simp
  obtain ⟨hwt, htr⟩ := i4 h hhm
  obtain ⟨gr, c, rfl, hb, hc1, hc2, c0, c1, c2, c3⟩ := i3.at hs.length (by simp)
  have hgt : (hs ++ [h])[hs.length]'(by simp) = h := by simp
  rw [hgt] at c0 c1 c2 c3
  obtain ⟨⟨a, cp, hpv⟩, hk, hdp, hw1, hw2, hpl⟩ := i3.2 h hhm
  have hL : (hs ++ [h]).length = hs.length + 1 := by simp
  have hov := hx.facts.1.2.2.2
  rw [hL] at hov hc1
  obtain ⟨wA, hwA⟩ : ∃ wA, w.alloc (.cells #[.int .i64 0, .bool false, .slice none 0 0, .string ⟨#[]⟩, .int .i64 0, .slice none 0 0] 29) = wA := ⟨_, rfl⟩
  have hBt : Bt wA w.heap.size 0 false (.slice none 0 0) ⟨#[]⟩ 0 (.slice none 0 0) := by rw [← hwA]; exact Bt.new w _ _ _ _ _ _ ⟨_, _, _, rfl⟩ ⟨_, _, _, rfl⟩
  have hBA : Below w.heap.size w wA := by rw [← hwA]; exact (Below.refl _ _).alloc (Nat.le_refl _) _
  have hszA : wA.heap.size = w.heap.size + 1 := by rw [← hwA]; simp
  have hgl := hx.lt
  have hgrl := World.block_lt_of_cell? w _ c0
  rw [hpv] at c2
  obtain ⟨k, hkd⟩ : ∃ k, k = h.kind := ⟨_, rfl⟩
  obtain ⟨d, hdd⟩ : ∃ d, d = h.depth := ⟨_, rfl⟩
  obtain ⟨m, hmd⟩ : ∃ m, m = h.ps.length := ⟨_, rfl⟩
  rw [← hkd] at c0 hk
  rw [← hdd] at c1 hdp
  rw [← hw, ← hmd] at c3
  rw [← hmd] at c2 hpl hw
  obtain ⟨wB, hwB⟩ : ∃ wB, wA.alloc (.cells #[.int .i64 k, .int .i64 (d : Int), .slice a m cp, .int .i64 (m : Int)] 113) = wB := ⟨_, rfl⟩
  have hBB : Below wA.heap.size wA wB := by rw [← hwB]; exact (Below.refl _ _).alloc (Nat.le_refl _) _
  have hszB : wB.heap.size = w.heap.size + 2 := by rw [← hwB]; simp; omega
  have hBwB : Below w.heap.size w wB := hBA.trans (hBB.mono hBA.size)
  have hh : wB.heap[wA.heap.size]? = some (.cells #[.int .i64 k, .int .i64 (d : Int), .slice a m cp, .int .i64 (m : Int)] 113 (0, 0)) := by rw [← hwB]; exact heap_alloc_new wA _
  have HX : Hid (RdX wB g bv p n (.slice (some ⟨gr, 0, none⟩) (hs.length + 1) c)) := by have := hx.under hBwB; rw [hL] at this; exact this
  have HXW : RdX w g bv p n (.slice (some ⟨gr, 0, none⟩) (hs.length + 1) c) := by have := hx; rw [hL] at this; exact this
  have HBt : Hid (Bt wB w.heap.size 0 false (.slice none 0 0) ⟨#[]⟩ 0 (.slice none 0 0)) := hBt.under hBB
  have HBwB : Hid (Below w.heap.size w wB) := hBwB
  have hbA : ∀ (x : Addr) (u : Value), w.cell? x = some u → wA.cell? x = some u := fun x u hu => (hBA.cell (World.block_lt_of_cell? w x hu)).trans hu
  have hbB : ∀ (x : Addr) (u : Value), w.cell? x = some u → wB.cell? x = some u := fun x u hu => (hBwB.cell (World.block_lt_of_cell? w x hu)).trans hu
  have c0A := hbA _ _ c0
  have c1A := hbA _ _ c1
  have c2A := hbA _ _ c2
  have c3A := hbA _ _ c3
  have hovA := hbA _ _ hov
  have hovB := hbB _ _ hov
  have hfB : wB.frozen? ⟨g, 3, none⟩ = false := HX.out.facts.2.2.2.2
  rw [hszA] at hh
  have s0 : wB.cell? ⟨w.heap.size + 1, 0, none⟩ = some (.int .i64 k) := by simp [World.cell?, hh]
  have s1 : wB.cell? ⟨w.heap.size + 1, 1, none⟩ = some (.int .i64 (d : Int)) := by simp [World.cell?, hh]
  have s2 : wB.cell? ⟨w.heap.size + 1, 2, none⟩ = some (.slice a m cp) := by simp [World.cell?, hh]
  have s3 : wB.cell? ⟨w.heap.size + 1, 3, none⟩ = some (.int .i64 (m : Int)) := by simp [World.cell?, hh]
  obtain ⟨a0, a1, a2, a3, a4, a5⟩ := HBt.out.cells
  obtain ⟨f0, f1, f2, f3, f4, f5⟩ := HBt.out.froz
  have hi : ((hs.length : Nat) : Int) + 1 - 1 = (hs.length : Int) := by omega
  have hlt : (hs.length : Int) < (hs.length : Int) + 1 := by omega
  have hlc : (hs.length : Int) + 1 ≤ (c : Int) := by omega
  have HI : Hid (StI W0 B g (hs ++ [h]) (.slice (some ⟨gr, 0, none⟩) (hs ++ [h]).length c) P w) := ⟨i1, i2, i3, i4, i5, i6, i7, i8⟩
  have HWT : Hid (WaitT w B (.slice a m cp) h.ps) := by rw [hmd, ← hpv]; exact hwt
  have HTR : Hid (∀ q ∈ h.ps, IsT (veil P w) q.2 q.1) := htr
  have HPV : Hid (h.pv = .slice a m cp) := by rw [hmd]; exact hpv
  have HM : Hid (m = qs.length + 1 ∧ m = h.want) := ⟨by rw [hmd, hps]; simp, hw⟩
  have HPS : Hid (h.ps = qs ++ [(vl, tl)]) := hps
  have HKD : Hid (k = h.kind) := hkd
  clear i1 i2 i3 i4 i5 i6 i7 i8 hwt htr hpv hx hBt hBA hBB hBwB hbA hbB hh c0 c1 c2 c3 hov hgt hhm hps hkd hdd hmd hw hw1 hw2
  have HWA : Hid (RdX w g bv p n (.slice (some ⟨gr, 0, none⟩) (hs.length + 1) c)) := HXW
  clear HXW
  go_enter Tryd.func83, Tryd.ntmps83
  rcases hk with rfl | rfl
  · have hcu := (But.refl g wB).setCell 3 (.slice (some ⟨gr, 0, none⟩) hs.length c)
    obtain ⟨wC, hwC⟩ : ∃ wC, wB.setCell ⟨g, 3, none⟩ (.slice (some ⟨gr, 0, none⟩) hs.length c) = wC := ⟨_, rfl⟩
    rw [hwC] at hcu
    have hszC : wC.heap.size = w.heap.size + 2 := by rw [hcu.size, hszB]
    have hGC : Grw g w wC := (Grw.ofBelow HBwB.out).but hcu (.inl rfl)
    have HGC : Hid (Grw g w wC) := hGC
    have HXC : Hid (RdX wC g bv p n (.slice (some ⟨gr, 0, none⟩) hs.length c)) := by unfold Hid; rw [← hwC]; exact HX.out.setO (.slice (some ⟨gr, 0, none⟩) hs.length c) ⟨_, _, _, rfl⟩
    have HBC : Hid (Bt wC w.heap.size 0 false (.slice none 0 0) ⟨#[]⟩ 0 (.slice none 0 0)) := HBt.out.other hcu (by omega)
    have bC : ∀ (x : Addr) (u : Value), x.block ≠ g → wB.cell? x = some u → wC.cell? x = some u := fun x u hx hu => by rw [World.cell?_of_block (w := wB) (hcu.block x.block hx)]; exact hu
    have r0 := bC _ _ (by show w.heap.size + 1 ≠ g; omega) s0
    have r1 := bC _ _ (by show w.heap.size + 1 ≠ g; omega) s1
    have r2 := bC _ _ (by show w.heap.size + 1 ≠ g; omega) s2
    have r3 := bC _ _ (by show w.heap.size + 1 ≠ g; omega) s3
    have hts := HI.out.parts hgB hGC
    rw [HPV.out] at hts
    have hpl2 : (h.ps.map Prod.snd).length = m := by rw [HPS.out]; simp; have := HM.out.1; omega
    have hgt : (h.ps.map Prod.snd)[m - 1]'(by rw [hpl2]; have := HM.out.1; omega) = tl := by
      have e : h.ps.map Prod.snd = qs.map Prod.snd ++ [tl] := by rw [HPS.out]; simp
      simp only [e]
      rw [List.getElem_append_right (by have := HM.out.1; simp; omega)]
      simp
    obtain ⟨bb, off, vt, ha, hlt2, h6v, hvt⟩ := hts.at (m - 1) (by rw [hpl2]; have := HM.out.1; omega)
    subst ha
    rw [hgt] at hvt
    have h6 : At6 wC bb (off + (m - 1) * 6) vt := h6v.cells (fun a u ha => (veil_cell ha).2)
    obtain ⟨q, hqd⟩ : ∃ q, q = m - 1 := ⟨_, rfl⟩
    rw [← hqd] at h6
    have hqm : q < m := by have := HM.out.1; omega
    have hq1 : (m : Int) - 1 = (q : Int) := by omega
    have hq2 : (q : Int) < (m : Int) := by omega
    obtain ⟨a', cp', hsh, hcp1, hcp2, -⟩ := hts.shape
    rw [hpl2] at hsh hcp1
    injection hsh with e1 e2 e3
    subst e1; subst e3
    have hq3 : (q : Int) ≤ (cp : Int) := by omega
    have htk := hts.take q (by rw [hpl2]; omega)
    have hheads : (h.ps.map Prod.snd).take q = qs.map Prod.snd := by
      have e : h.ps.map Prod.snd = qs.map Prod.snd ++ [tl] := by rw [HPS.out]; simp
      have hql : q = (qs.map Prod.snd).length := by have := HM.out.1; simp; omega
      rw [e, hql, List.take_left]
    rw [hheads] at htk
    obtain ⟨sl, sk, rfl, hls, hks, -⟩ := hvt.open
    obtain ⟨pl, cl, rfl⟩ := hls.shape
    obtain ⟨pk, ck, rfl, -⟩ := hks.shape
    have HLN : Hid (∀ W, Below wC.heap.size wC W → Calls Tryd.prog 133 #[.slice (some ⟨bb, off, none⟩) q cp, .agg #[.int .i64 tl.kind, .bool tl.neg, .slice pl tl.limbs.length cl, .string tl.str, .int .i64 tl.num, .slice pk tl.kids.length ck]] W fun e w' => ∃ v, e = .returned v ∧ IsT (veil (orB (andV P h.pv) wC.heap.size) w') (listT (qs.map Prod.snd) tl) v ∧ Below wC.heap.size wC w') := fun W hW => by
      rw [HPV.out]
      have hmv : ∀ b, andV P (Value.slice (some ⟨bb, off, none⟩) m cp) b = true → b < wC.heap.size → W.heap[b]? = wC.heap[b]? ∧ andV P (Value.slice (some ⟨bb, off, none⟩) m cp) b = true := fun b hb hlt => ⟨hW.block b hlt, hb⟩
      refine (list_new (andV P (.slice (some ⟨bb, off, none⟩) m cp)) _ _ _ tl W (htk.veiled hW.size hmv) (hvt.veiled hW.size hmv)).mono ?_
      rintro e w' ⟨v, rfl, hi, bw⟩
      refine ⟨v, rfl, hi.veiled (Nat.le_refl _) (fun b hb _ => ⟨rfl, ?_⟩), hW.trans (bw.mono hW.size)⟩
      unfold orB at hb ⊢
      rw [Bool.or_eq_true, decide_eq_true_eq] at hb ⊢
      have := hW.size
      rcases hb with hb | hb
      · exact .inl hb
      · exact .inr (by omega)
    obtain ⟨e0, e1, e2', e3', e4, e5, hve, g0, g1, g2, g3, g4, g5⟩ := h6
    simp only [tmV, Value.agg.injEq, List.toArray_inj, List.cons.injEq, and_true] at hve
    obtain ⟨rfl, rfl, rfl, rfl, rfl, rfl⟩ := hve
    have bD : ∀ (x : Addr) (u : Value), wC.cell? x = some u → (wC.alloc (.cells #[.int .i64 0, .bool false, .slice none 0 0, .string ⟨#[]⟩, .int .i64 0, .slice none 0 0] 29)).cell? x = some u := fun x u hu => (((Below.refl wC.heap.size wC).alloc (Nat.le_refl _) _).cell (World.block_lt_of_cell? wC x hu)).trans hu
    have r0' := bD _ _ r0
    have r1' := bD _ _ r1
    have r2' := bD _ _ r2
    have r3' := bD _ _ r3
    have g0' := bD _ _ g0
    have g1' := bD _ _ g1
    have g2' := bD _ _ g2
    have g3' := bD _ _ g3
    have g4' := bD _ _ g4
    have g5' := bD _ _ g5
    obtain ⟨wD, hwD⟩ : ∃ wD, wC.alloc (.cells #[.int .i64 tl.kind, .bool tl.neg, .slice pl tl.limbs.length cl, .string tl.str, .int .i64 tl.num, .slice pk tl.kids.length ck] 29) = wD := ⟨_, rfl⟩
    have hBD : Below wC.heap.size wC wD := by rw [← hwD]; exact (Below.refl _ _).alloc (Nat.le_refl _) _
    have hDT : Bt wD wC.heap.size tl.kind tl.neg (.slice pl tl.limbs.length cl) tl.str tl.num (.slice pk tl.kids.length ck) := by rw [← hwD]; exact Bt.new wC _ _ _ _ _ _ ⟨_, _, _, rfl⟩ ⟨_, _, _, rfl⟩
    rw [hszC] at hDT
    obtain ⟨k0, k1, k2, k3, k4, k5⟩ := hDT.cells
    have HBD : Hid (Below wC.heap.size wC wD) := hBD
    have HBDt : Hid (Bt wD w.heap.size 0 false (.slice none 0 0) ⟨#[]⟩ 0 (.slice none 0 0)) := HBC.out.under hBD
    obtain ⟨a0, a1, a2, a3, a4, a5⟩ := HBDt.out.cells
    obtain ⟨f0, f1, f2, f3, f4, f5⟩ := HBDt.out.froz
    have HXD : Hid (RdX wD g bv p n (.slice (some ⟨gr, 0, none⟩) hs.length c)) := HXC.out.under hBD
    have HGD : Hid (Grw g w wD) := HGC.out.more hBD
    have HSZC : Hid (wC.heap.size = w.heap.size + 2) := hszC
    clear hts htk hheads hvt hls hks hlt2 h6v hgt hpl2 bD bC hBD hDT hGC hcu hqd hcp1 hcp2
    go_wp2_with fail
    go_region
    by_cases ht4 : tl.kind = 4
    · have q4 : (tl.kind == 4) = true := by simp [ht4]
      have HR : Hid (shutT ⟨h.kind, h.depth, qs.map Prod.snd, h.want⟩ tl p n = Rs.bad 4) := by
        unfold Hid shutT
        rw [if_neg (show ¬ h.kind = 5 by rw [← HKD.out]; decide), if_pos ht4]
      clear ht4
      go_wp2_with fail
      refine bodyPost_ret (results_bt2 rfl _ _ w.heap.size 0 false (.slice none 0 0) ⟨#[]⟩ 0 (.slice none 0 0) rfl (Bt.set (w := wD) HBDt.out 0 false (.slice none 0 0) ⟨#[]⟩ 0 (.slice none 0 0) ⟨_, _, _, rfl⟩ ⟨_, _, _, rfl⟩).drew) rfl ?_
      rw [HR.out]
      exact ⟨_, rfl, (HGD.out.but (setBt_but wD _ _ _ _ _ _ _) (.inr (Nat.le_refl _))).drew, ⟨_, _, _, _, _, _, rfl, ⟨_, _, _, rfl⟩, ⟨_, _, _, rfl⟩⟩, fun h => absurd h (by decide)⟩
    · have q4 : (tl.kind == 4) = false := by rw [beq_eq_false_iff_ne]; exact ht4
      have HR : Hid (shutT ⟨h.kind, h.depth, qs.map Prod.snd, h.want⟩ tl p n = ⟨0, listT (qs.map Prod.snd) tl, p, n⟩) := by
        unfold Hid shutT
        rw [if_neg (show ¬ h.kind = 5 by rw [← HKD.out]; decide), if_neg ht4]
      clear ht4
      go_wp2_with fail
      refine (HLN.out _ (by first | exact HBD.out.drew | exact HBD.out)).mono ?_
      rintro e w5 ⟨v, rfl, hi, b5⟩
      obtain ⟨sl5, sk5, rfl, hls5, hks5, -⟩ := hi.open
      obtain ⟨pl5, cl5, rfl⟩ := hls5.shape
      obtain ⟨pk5, ck5, rfl, -⟩ := hks5.shape
      have HI5 : Hid (IsT (veil (orB (andV P h.pv) wC.heap.size) w5) (listT (qs.map Prod.snd) tl) (tmV (listT (qs.map Prod.snd) tl).kind (listT (qs.map Prod.snd) tl).neg (.slice pl5 (listT (qs.map Prod.snd) tl).limbs.length cl5) (listT (qs.map Prod.snd) tl).str (listT (qs.map Prod.snd) tl).num (.slice pk5 (listT (qs.map Prod.snd) tl).kids.length ck5))) := hi
      have HB5 : Hid (Below wC.heap.size wC w5) := b5
      have HBt5 : Hid (Bt w5 w.heap.size 0 false (.slice none 0 0) ⟨#[]⟩ 0 (.slice none 0 0)) := HBC.out.under b5
      have HX5 : Hid (RdX w5 g bv p n (.slice (some ⟨gr, 0, none⟩) hs.length c)) := HXC.out.under b5
      have HG5 : Hid (Grw g w w5) := HGC.out.more b5
      clear hi hls5 hks5 b5 a0 a1 a2 a3 a4 a5 f0 f1 f2 f3 f4 f5
      obtain ⟨a0, a1, a2, a3, a4, a5⟩ := HBt5.out.cells
      obtain ⟨f0, f1, f2, f3, f4, f5⟩ := HBt5.out.froz
      generalize listT (qs.map Prod.snd) tl = tt at *
      simp only [tmV]
      go_wp2_with fail
      refine bodyPost_ret (results_bt2 rfl _ _ w.heap.size tt.kind tt.neg (.slice pl5 tt.limbs.length cl5) tt.str tt.num (.slice pk5 tt.kids.length ck5) rfl (Bt.set HBt5.out tt.kind tt.neg (.slice pl5 tt.limbs.length cl5) tt.str tt.num (.slice pk5 tt.kids.length ck5) ⟨_, _, _, rfl⟩ ⟨_, _, _, rfl⟩)) rfl ?_
      rw [HR.out]
      have hbu := setBt_but w5 w.heap.size tt.kind tt.neg (.slice pl5 tt.limbs.length cl5) tt.str tt.num (.slice pk5 tt.kids.length ck5)
      have hG : Grw g w (setBt w5 w.heap.size tt.kind tt.neg (.slice pl5 tt.limbs.length cl5) tt.str tt.num (.slice pk5 tt.kids.length ck5)) := HG5.out.but hbu (.inr (Nat.le_refl _))
      have hs5 := HB5.out.size
      have hS1 := HI.out.shut HWA.out hgB hWg hG
      obtain ⟨j1, j2, j3, j4, j5, j6, j7, j8⟩ := HI.out
      have ho := HI.out.own
      have hVlt : ∀ b, andV P h.pv b = true → b < w.heap.size ∧ B ≤ b := fun b hb => by
        rcases andV_is.1 hb with hb | hb
        · exact j5 b hb
        · obtain ⟨-, -, -, l1, l2⟩ := ho b hb
          exact ⟨l2, l1⟩
      refine ⟨_, rfl, hG, ⟨_, _, _, _, _, _, rfl, ⟨_, _, _, rfl⟩, ⟨_, _, _, rfl⟩⟩, fun _ => ⟨_, fun b => orB (andV P h.pv) wC.heap.size b && decide (b < w5.heap.size), HX5.out.block (hbu.block g (by omega)), ?_, ?_, fun b hb1 hb2 => (by
          unfold orB at hb2
          rw [Bool.and_eq_true, Bool.or_eq_true, decide_eq_true_eq] at hb2
          rcases hb2.1 with h1 | h1
          · exact andV_is.1 h1
          · have := HSZC.out; omega)⟩⟩
      · refine hS1.grw hgB hWg hS1.2.1 (Grw.refl _ _) (fun b hb => ?_) (fun b hb => ?_) (fun b hb => ?_) (fun x hx b hb => ?_)
        · have := hVlt b hb
          unfold orB
          rw [hb, decide_eq_true (show b < w5.heap.size by have := HSZC.out; omega)]; rfl
        · unfold orB at hb
          rw [Bool.and_eq_true, Bool.or_eq_true, decide_eq_true_eq, decide_eq_true_eq] at hb
          have := HSZC.out
          rcases hb with ⟨hb | hb, h2⟩
          · exact ⟨Nat.lt_of_lt_of_eq h2 hbu.size.symm, (hVlt b hb).2⟩
          · exact ⟨Nat.lt_of_lt_of_eq h2 hbu.size.symm, by omega⟩
        · have h1 := hS1.2.2.2.2.2.1 b hb
          have h2 : b < w.heap.size := by
            have e : gr = b := by simpa [Value.ownBlock] using hb
            omega
          unfold orB
          rw [h1, decide_eq_false (show ¬ wC.heap.size ≤ b by have := HSZC.out; omega)]; rfl
        · have h1 := hS1.2.2.2.2.2.2.1 x hx b hb
          have h2 : b < w.heap.size := ((j4 x (List.mem_append_left _ hx)).1.lt b hb).2.1
          unfold orB
          rw [h1, decide_eq_false (show ¬ wC.heap.size ≤ b by have := HSZC.out; omega)]; rfl
      · refine HI5.out.veiled (Nat.le_of_eq hbu.size.symm) (fun b hb hlt => ⟨hbu.block b ?_, ?_⟩)
        · unfold orB at hb
          rw [Bool.or_eq_true, decide_eq_true_eq] at hb
          have := HSZC.out
          rcases hb with hb | hb
          · have := (hVlt b hb).1; omega
          · omega
        · rw [hb, decide_eq_true hlt]; rfl
  · go_wp2_with fail
    have hcu := (But.refl g wB).setCell 3 (.slice (some ⟨gr, 0, none⟩) hs.length c)
    refine bodyPost_ret (results_bt2 rfl _ _ w.heap.size 5 false (.slice none 0 0) ⟨#[]⟩ 0 (.slice a m cp) rfl (Bt.set (HBt.out.other hcu (by omega)) 5 false (.slice none 0 0) ⟨#[]⟩ 0 (.slice a m cp) ⟨_, _, _, rfl⟩ ⟨_, _, _, rfl⟩)) rfl ?_
    have hbu := setBt_but (wB.setCell ⟨g, 3, none⟩ (.slice (some ⟨gr, 0, none⟩) hs.length c)) w.heap.size 5 false (.slice none 0 0) ⟨#[]⟩ 0 (.slice a m cp)
    have hG : Grw g w (setBt (wB.setCell ⟨g, 3, none⟩ (.slice (some ⟨gr, 0, none⟩) hs.length c)) w.heap.size 5 false (.slice none 0 0) ⟨#[]⟩ 0 (.slice a m cp)) := ((Grw.ofBelow HBwB.out).but hcu (.inl rfl)).but hbu (.inr (Nat.le_refl _))
    have hR : shutT ⟨h.kind, h.depth, qs.map Prod.snd, h.want⟩ tl p n = ⟨0, tupT (h.ps.map Prod.snd), p, n⟩ := by
      unfold shutT
      rw [if_pos HKD.out.symm, HPS.out]
      simp
    rw [hR]
    refine ⟨_, rfl, hG, ⟨_, _, _, _, _, _, rfl, ⟨_, _, _, rfl⟩, ⟨_, _, _, rfl⟩⟩, fun _ => ⟨_, andV P h.pv, (HX.out.setO (.slice (some ⟨gr, 0, none⟩) hs.length c) ⟨_, _, _, rfl⟩).block (hbu.block g (by omega)), HI.out.shut HWA.out hgB hWg hG, ?_, fun b _ hb => andV_is.1 hb⟩⟩
    have hts := HI.out.parts hgB hG
    rw [HPV.out] at hts ⊢
    exact IsT.shut (by omega) (by omega) (by decide) (Sl.nil _) hts
end Go.Proofs.YtbmondbicnfcpaaDoor
