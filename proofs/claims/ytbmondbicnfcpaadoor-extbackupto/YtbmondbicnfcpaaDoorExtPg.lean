
/-
  ext: what is put is got; cut it is short (plain).
-/
import Derived.Test.YtbmondbicnfcpaaDoorExtBk
namespace Go.Proofs.YtbmondbicnfcpaaDoor
open Go.RowKit
set_option linter.unusedVariables false
set_option linter.unusedSimpArgs false

/-- All limbs fit. -/
def okLm : Tm → Prop := Tm.fold (fun t Ks => Ok t.limbs ∧ andL Ks)
def okLmL : List Tm → Prop
  | [] => True
  | t :: r => okLm t ∧ okLmL r
theorem okLmL_and : ∀ l : List Tm, andL (l.map okLm) = okLmL l
  | [] => rfl
  | t :: r => by simp only [List.map_cons, andL, okLmL, okLmL_and r]
theorem okLm_eq (t : Tm) : okLm t ↔ Ok t.limbs ∧ okLmL t.kids := by
  rw [← okLmL_and]
  cases t
  unfold okLm
  rw [Tm.fold_mk]
theorem okLmL_mem {l : List Tm} (h : okLmL l) : ∀ t ∈ l, okLm t := by
  induction l with
  | nil => exact fun t ht => absurd ht (by simp)
  | cons a r ih =>
    intro t ht
    rcases List.mem_cons.1 ht with rfl | ht
    · exact h.1
    · exact ih h.2 t ht
theorem okLmL_of {l : List Tm} (h : ∀ t ∈ l, okLm t) : okLmL l := by
  induction l with
  | nil => trivial
  | cons a r ih => exact ⟨h a (by simp), ih (fun t ht => h t (by simp [ht]))⟩
theorem isT_okLm {w : World} : ∀ (m : Nat) (t : Tm) (v : Value), t.nodes ≤ m → IsT w t v → okLm t
  | 0, t, v, hm, _ => absurd (nodes_pos t) (by omega)
  | m + 1, t, v, hm, h => by
    obtain ⟨sl, sk, rfl, hl, hk, -⟩ := h.open
    refine (okLm_eq t).2 ⟨hl.ok, okLmL_of (fun k hkm => ?_)⟩
    obtain ⟨i, hi, rfl⟩ := List.getElem_of_mem hkm
    obtain ⟨pk, ck, rfl, -⟩ := hk.shape
    obtain ⟨b, off, vv, -, -, -, hv⟩ := hk.at i hi
    have hn := Tm.nodes_eq t
    have h1 : t.kids[i].nodes ≤ nodesL t.kids := by
      have h2 := nodesL_app (t.kids.take i) (t.kids.drop i)
      rw [List.take_append_drop, List.drop_eq_getElem_cons hi] at h2
      simp only [nodesL] at h2
      omega
    exact isT_okLm m _ _ (by omega) hv
theorem okLm_cons {a b : Tm} (h : okLm (consT a b)) : okLm a ∧ okLm b := by
  have := ((okLm_eq _).1 h).2
  exact ⟨this.1, this.2.1⟩
theorem okLm_list (tl : Tm) : ∀ H : List Tm, okLm (listT H tl) → (∀ h ∈ H, okLm h) ∧ okLm tl
  | [], h => ⟨fun x hx => absurd hx (by simp), h⟩
  | a :: H, h => by
    obtain ⟨h1, h2⟩ := okLm_cons (a := a) (b := listT H tl) h
    obtain ⟨h3, h4⟩ := okLm_list tl H h2
    refine ⟨fun x hx => ?_, h4⟩
    rcases List.mem_cons.1 hx with rfl | hx
    · exact h1
    · exact h3 x hx

/-- What begins, cut. -/
theorem bgn_cut {l z W D : List UInt8} {b : UInt8} {p n d c : Nat} {s : Sh} (hs : shF b.toNat = some s) (hz : z ≠ []) (hpl : p ≤ l.length) (hl : l.drop p ++ z = b :: (W ++ D)) (hw : W.length = s.w) (hc : highL W = c) (hlo : s.lo ≤ c) (hhi : c ≤ if s.tag = 108 then s.hi - n else s.hi) (hD : D.length = s.al + s.ea * c) (hn : n < 2000) (hd : d ≤ 60) : (bgn l p n d).e = 3 := by
  have hz0 : 0 < z.length := List.length_pos_iff.2 hz
  have hlen := congrArg List.length hl
  simp only [List.length_append, List.length_drop, List.length_cons] at hlen
  unfold bgn
  by_cases h1 : l.length < p + 1
  · have hf : fstR l p n d = (3, shZ) := by unfold fstR; rw [if_pos h1]
    rw [hf]; rfl
  have hb : l.getD p 0 = b := by
    have h := congrArg (fun x => x[0]?) hl
    simp only [List.getElem?_cons_zero] at h
    rw [List.getElem?_append_left (by simp; omega), List.getElem?_drop, Nat.add_zero] at h
    simp [List.getD, h]
  have hf : fstR l p n d = (0, s) := by rw [fst_of (by omega), if_neg (by omega), hb, hs]; rfl
  rw [hf]
  dsimp only
  rw [if_neg (fun h => h rfl)]
  by_cases h2 : l.length < p + 1 + s.w
  · have hm : manR l (p + 1) n s = (3, 0) := by unfold manR; rw [if_pos h2]
    rw [hm]; rfl
  have hW : (l.drop (p + 1)).take s.w = W := by
    have e1 : ((l.drop p ++ z).drop 1).take s.w = (l.drop (p + 1)).take s.w := by
      rw [List.drop_append_of_le_length (by simp; omega), List.drop_drop, List.take_append_of_le_length (by simp; omega)]
    have e2 : ((b :: (W ++ D)).drop 1).take s.w = W := by rw [← hw]; simp
    rw [← e1, hl, e2]
  have hm : manR l (p + 1) n s = (0, c) := by
    unfold manR
    rw [if_neg h2, hW, hc, if_neg (by omega)]
  rw [hm]
  dsimp only
  rw [if_neg (fun h => h rfl)]
  unfold bgn.bgnD
  rw [if_pos (by omega)]
  rfl

/-- What stands for a number: its first byte, what says how many, its other bytes. -/
theorem int_shape {neg : Bool} {zs : List Int} (hg : Good neg zs) (hok : Ok zs) : ∃ (s : Sh) (b : UInt8) (W D : List UInt8) (c : Nat), shF b.toNat = some s ∧ s.tag ≠ 108 ∧ s.tag ≠ 104 ∧ intL (Z neg (V zs)) = b :: (W ++ D) ∧ W.length = s.w ∧ highL W = c ∧ s.lo ≤ c ∧ c ≤ s.hi ∧ D.length = s.al + s.ea * c ∧ rawT s.tag D = .mk 1 neg zs ⟨#[]⟩ 0 [] := by
  obtain ⟨x, hx⟩ : ∃ x, x = Z neg (V zs) := ⟨_, rfl⟩
  rw [← hx]
  obtain ⟨A, hA⟩ := Int.eq_ofNat_of_zero_le (V_nonneg hok)
  have hab : x.natAbs = A := by rw [hx]; exact natAbs_Z neg hok hA
  have hsg := Z_pos hg hok
  rw [← hx] at hsg
  by_cases h1 : 0 ≤ x ∧ x ≤ 255
  · have e : intL x = [97, UInt8.ofNat x.toNat] := by unfold intL; rw [if_pos h1]
    obtain ⟨e1, e2⟩ := num_one hg hok hx.symm (by omega)
    have hr : rawT 97 [UInt8.ofNat x.toNat] = .mk 1 neg zs ⟨#[]⟩ 0 [] := by
      have hh : ((highL [UInt8.ofNat x.toNat] : Nat) : Int) = x := by simp [highL]; omega
      unfold rawT
      rw [if_pos rfl, hh, e1, e2]; rfl
    exact ⟨⟨97, 0, 0, 0, 1, 0⟩, 97, [], [UInt8.ofNat x.toNat], 0, rfl, by decide, by decide, e, rfl, rfl, Nat.le_refl _, Nat.le_refl _, rfl, hr⟩
  · by_cases h2 : -2147483648 ≤ x ∧ x ≤ 2147483647
    · have e : intL x = 98 :: four (u32of x) := by unfold intL; rw [if_neg h1, if_pos h2]
      obtain ⟨e1, e2⟩ := num_one hg hok hx.symm (by omega)
      have hr : rawT 98 (four (u32of x)) = .mk 1 neg zs ⟨#[]⟩ 0 [] := by
        have hh : sig32 (highL (four (u32of x))) = x := by
          have h3 : highL (four (u32of x)) = u32of x := by
            have h4 : u32of x < 4294967296 := by unfold u32of; omega
            simp only [highL, four, List.foldl_cons, List.foldl_nil, u8n]
            omega
          rw [h3]
          unfold sig32 u32of
          split <;> omega
        unfold rawT
        rw [if_neg (by decide), if_pos rfl, hh, e1, e2]; rfl
      exact ⟨⟨98, 0, 0, 0, 4, 0⟩, 98, [], four (u32of x), 0, rfl, by decide, by decide, e, rfl, rfl, Nat.le_refl _, Nat.le_refl _, rfl, hr⟩
    · have hlen := lenN_is A
      have h384 := len_384 hg hok
      rw [← hx, hab] at h384
      obtain ⟨m, hm⟩ : ∃ m, m = lenN A := ⟨_, rfl⟩
      rw [← hm] at hlen h384
      have e : intL x = 110 :: ([UInt8.ofNat ((m + 7) / 8)] ++ ((if x < 0 then 1 else 0) :: (List.range ((m + 7) / 8)).map (sByte A))) := by
        unfold intL
        rw [if_neg h1, if_neg h2, hab, ← hm]
        unfold bigB
        rw [hab]; rfl
      have hA0 : 0 < A := by omega
      have hm0 : 0 < m := (hlen.resolve_left (fun h => by omega)).1
      have hlr := limR_bytes hg hok hA hA0 hlen
      have hlm : ((List.range ((m + 7) / 8)).map (sByte A)).length = (m + 7) / 8 := by simp
      have hr : rawT 110 ((if x < 0 then 1 else 0) :: (List.range ((m + 7) / 8)).map (sByte A)) = .mk 1 neg zs ⟨#[]⟩ 0 [] := by
        unfold rawT
        rw [if_neg (by decide), if_neg (by decide), if_pos rfl]
        have e1 : (((if x < 0 then 1 else 0) :: (List.range ((m + 7) / 8)).map (sByte A) : List UInt8).drop 1) = (List.range ((m + 7) / 8)).map (sByte A) := rfl
        rw [e1, hlm, hlr]
        have e2 : decide (((if x < 0 then 1 else 0) :: (List.range ((m + 7) / 8)).map (sByte A) : List UInt8).getD 0 0 ≠ 0) = neg := by
          cases neg with
          | true => have := hsg.1 rfl; rw [if_pos this]; rfl
          | false => have := hsg.2 rfl; rw [if_neg (by omega)]; rfl
        rw [e2]
      exact ⟨⟨110, 1, 1, 48, 1, 1⟩, 110, [UInt8.ofNat ((m + 7) / 8)], (if x < 0 then 1 else 0) :: (List.range ((m + 7) / 8)).map (sByte A), (m + 7) / 8, rfl, by decide, by decide, e, rfl, by simp [highL]; omega, by simp only; omega, by simp only; omega, by simp; omega, hr⟩
theorem no_str {S : ByteArray} (h : S.toList = []) : S = ⟨#[]⟩ := by
  have h5 : S.data.toList = [] := by rw [← tl_eq]; exact h
  cases S with
  | mk d => simp at h5; rw [h5]
theorem str_back (S : ByteArray) : (⟨S.data.toList.toArray⟩ : ByteArray) = S := by cases S; simp
/-- What stands for a term without parts: its first byte, what says how many, its other bytes. -/
theorem leaf_shape {t : Tm} {d : Nat} (h : okD t d) (hl : Ok t.limbs) (h4 : ¬ t.kind = 4) (h5 : ¬ t.kind = 5) : ∃ (s : Sh) (b : UInt8) (W D : List UInt8) (c : Nat), shF b.toNat = some s ∧ s.tag ≠ 108 ∧ s.tag ≠ 104 ∧ putT t = b :: (W ++ D) ∧ W.length = s.w ∧ highL W = c ∧ s.lo ≤ c ∧ c ≤ s.hi ∧ D.length = s.al + s.ea * c ∧ rawT s.tag D = t ∧ t.ok = true ∧ t.nodes = 1 := by
  have ha := h.alone
  have hkids : t.kids = [] := by
    unfold Tm.alone aloneK restB at ha
    rcases alone_kind h.alone with k | k | k | k | k | k
    · rw [if_pos k] at ha; simp at ha; exact ha.2.2
    · rw [if_neg (by omega), if_pos k] at ha; simp at ha; exact ha.2.2
    · rw [if_neg (by omega), if_neg (by omega), if_pos k] at ha; simp at ha; exact ha.2
    · exact absurd k h4
    · exact absurd k h5
    · rw [if_neg (by omega), if_neg (by omega), if_neg (by omega), if_neg (by omega), if_neg (by omega), if_pos k] at ha; simp at ha; exact ha.2.2
  have hnod : t.nodes = 1 := by rw [Tm.nodes_eq, hkids]; simp [nodesL]
  have hok : t.ok = true := by
    refine (ok_iff t).2 ⟨(okD_eq t 1).2 ⟨by decide, h.alone, ?_⟩, by omega⟩
    rw [if_neg h4, hkids]
    exact fun k hk => absurd hk (by simp)
  cases t with
  | mk k n L S N K =>
    simp only [Tm.kind, Tm.kids, Tm.limbs] at h4 h5 hkids hl
    subst hkids
    rcases alone_kind h.alone with k1 | k1 | k1 | k1 | k1 | k1 <;> simp only [Tm.kind] at k1 <;> subst k1
    · have hg : Good n L := alone_1 h.alone rfl
      have e : S = ⟨#[]⟩ ∧ N = 0 := by
        unfold Tm.alone aloneK restB at ha
        simp [Tm.kind, Tm.neg, Tm.limbs, Tm.str, Tm.num, Tm.kids] at ha
        exact ⟨no_str ha.2.1, ha.2.2⟩
      obtain ⟨rfl, rfl⟩ := e
      obtain ⟨s, b, W, D, c, q1, q2, q3, q4, q5, q6, q7, q8, q9, q10⟩ := int_shape hg hl
      exact ⟨s, b, W, D, c, q1, q2, q3, (putT_1 rfl).trans q4, q5, q6, q7, q8, q9, q10, hok, hnod⟩
    · obtain ⟨s1, s2⟩ := alone_2 h.alone rfl
      have e : n = false ∧ L = [] ∧ N = 0 := by
        unfold Tm.alone aloneK restB at ha
        simp [Tm.kind, Tm.neg, Tm.limbs, Tm.str, Tm.num, Tm.kids] at ha
        exact ⟨ha.2.1.1, ha.2.1.2, ha.2.2⟩
      obtain ⟨rfl, rfl, rfl⟩ := e
      simp only [Tm.str] at s1 s2
      have hsz : S.data.toList.length = S.size := by rw [Lib.size_eq]
      exact ⟨⟨119, 1, 1, 40, 0, 1⟩, 119, [UInt8.ofNat S.size], S.data.toList, S.size, rfl, by decide, by decide, putT_2 rfl, rfl, by simp [highL]; omega, s1, s2, by simp only; omega, by show Tm.mk 2 false [] ⟨S.data.toList.toArray⟩ 0 [] = _; rw [str_back], hok, hnod⟩
    · have e : n = false ∧ L = [] ∧ S = ⟨#[]⟩ ∧ N = 0 := by
        unfold Tm.alone aloneK restB at ha
        simp [Tm.kind, Tm.neg, Tm.limbs, Tm.str, Tm.num, Tm.kids] at ha
        exact ⟨ha.1.1.1, ha.1.1.2, no_str ha.1.2, ha.2⟩
      obtain ⟨rfl, rfl, rfl, rfl⟩ := e
      exact ⟨⟨106, 0, 0, 0, 0, 0⟩, 106, [], [], 0, rfl, by decide, by decide, putT_3 rfl, rfl, rfl, Nat.le_refl _, Nat.le_refl _, rfl, rfl, hok, hnod⟩
    · exact absurd rfl h4
    · exact absurd rfl h5
    · have s2 := alone_6 h.alone rfl
      have e : n = false ∧ L = [] ∧ N = 0 := by
        unfold Tm.alone aloneK restB at ha
        simp [Tm.kind, Tm.neg, Tm.limbs, Tm.str, Tm.num, Tm.kids] at ha
        exact ⟨ha.2.1.1, ha.2.1.2, ha.2.2⟩
      obtain ⟨rfl, rfl, rfl⟩ := e
      simp only [Tm.str] at s2
      have hsz : S.data.toList.length = S.size := by rw [Lib.size_eq]
      have hh : highL (four S.size) = S.size := by
        simp only [highL, four, List.foldl_cons, List.foldl_nil, u8n]
        omega
      exact ⟨⟨109, 4, 0, 400, 0, 1⟩, 109, four S.size, S.data.toList, S.size, rfl, by decide, by decide, putT_6 rfl, rfl, hh, Nat.zero_le _, s2, by simp only; omega, by show Tm.mk 6 false [] ⟨S.data.toList.toArray⟩ 0 [] = _; rw [str_back], hok, hnod⟩

theorem RT_leaf {l rest : List UInt8} {t : Tm} {p n d : Nat} (h : okD t d) (hl : Ok t.limbs) (h4 : ¬ t.kind = 4) (h5 : ¬ t.kind = 5) (hp : l.drop p = putT t ++ rest) (hn : n < 2000) : RT l p n d = ⟨0, t, p + (putT t).length, n + t.nodes⟩ := by
  obtain ⟨s, b, W, D, c, q1, q2, q3, q4, q5, q6, q7, q8, q9, q10, q11, q12⟩ := leaf_shape h hl h4 h5
  have hb := bgn_at (l := l) (rest := rest) (W := W) (D := D) (b := b) (p := p) (n := n) (d := d) (c := c) (s := s) q1 (by rw [hp, q4]; simp) q5 q6 q7 (by rw [if_neg q2]; exact q8) q9 hn h.deep (fun _ => by rw [q10, ← q4]; unfold putO; rw [if_pos q11])
  rw [if_neg q2, if_neg q3, if_neg q2, q10] at hb
  rw [RT_eq l p n d (by omega), hb, q12, q4]
  unfold opnR
  rw [if_neg (fun h => h rfl), if_pos rfl]
  simp only [List.length_cons, List.length_append, Rs.mk.injEq, true_and, and_true]
  omega
theorem leaf_cut {l z : List UInt8} {t : Tm} {p n d : Nat} (h : okD t d) (hl : Ok t.limbs) (h4 : ¬ t.kind = 4) (h5 : ¬ t.kind = 5) (hz : z ≠ []) (hpl : p ≤ l.length) (hp : l.drop p ++ z = putT t) (hn : n < 2000) : (RT l p n d).e = 3 := by
  obtain ⟨s, b, W, D, c, q1, q2, q3, q4, q5, q6, q7, q8, q9, q10, q11, q12⟩ := leaf_shape h hl h4 h5
  have hb := bgn_cut (l := l) (z := z) (W := W) (D := D) (b := b) (p := p) (n := n) (d := d) (c := c) (s := s) q1 hz hpl (hp.trans q4) q5 q6 q7 (by rw [if_neg q2]; exact q8) q9 hn h.deep
  rw [RT_eq l p n d (by omega)]
  unfold opnR
  rw [if_pos (by omega)]
  exact hb

/-- So many terms, one behind the other. -/
theorem rdK_put {l : List UInt8} {d : Nat} : ∀ (K : List Tm) (rest : List UInt8) (p n : Nat), (∀ t ∈ K, ∀ (rest : List UInt8) (p n : Nat), l.drop p = putT t ++ rest → n + t.nodes ≤ 2000 → RT l p n d = ⟨0, t, p + (putT t).length, n + t.nodes⟩) → l.drop p = putK K ++ rest → n + nodesL K ≤ 2000 → rdK (fun p n => RT l p n d) K.length p n = ⟨0, K, p + (putK K).length, n + nodesL K⟩
  | [], rest, p, n, _, _, _ => by simp [rdK, putK, nodesL]
  | t :: K, rest, p, n, hT, hp, hn => by
    simp only [nodesL] at hn
    rw [putK_cons, List.append_assoc] at hp
    have h1 := hT t (by simp) _ p n hp (by omega)
    have hp2 : l.drop (p + (putT t).length) = putK K ++ rest := by
      rw [← List.drop_drop, hp, List.drop_left]
    have ih := rdK_put K rest (p + (putT t).length) (n + t.nodes) (fun x hx => hT x (List.mem_cons_of_mem _ hx)) hp2 (by omega)
    show consR (RT l p n d) (rdK (fun p n => RT l p n d) K.length) = _
    rw [h1, consR_0 rfl]
    simp only
    rw [ih, prep_0 rfl, putK_cons]
    simp only [List.cons_append, List.nil_append, List.length_append, nodesL, Rk.mk.injEq, true_and]
    omega
/-- .. cut: they are all there, or it is too short. -/
theorem rdK_cut {l : List UInt8} {d : Nat} : ∀ (K : List Tm) (z Y : List UInt8) (p n : Nat), (∀ t ∈ K, ∀ (rest : List UInt8) (p n : Nat), l.drop p = putT t ++ rest → n + t.nodes ≤ 2000 → RT l p n d = ⟨0, t, p + (putT t).length, n + t.nodes⟩) →
    (∀ t ∈ K, ∀ (z : List UInt8) (p n : Nat), z ≠ [] → p ≤ l.length → l.drop p ++ z = putT t → n + t.nodes ≤ 2000 → (RT l p n d).e = 3) → p ≤ l.length → l.drop p ++ z = putK K ++ Y → n + nodesL K ≤ 2000 → (∃ r, l.drop p = putK K ++ r ∧ r ++ z = Y) ∨ (rdK (fun p n => RT l p n d) K.length p n).e = 3
  | [], z, Y, p, n, _, _, _, hp, _ => .inl ⟨l.drop p, rfl, hp⟩
  | t :: K, z, Y, p, n, hT, hC, hpl, hp, hn => by
    simp only [nodesL] at hn
    rw [putK_cons, List.append_assoc] at hp
    have full : ∀ r, l.drop p = putT t ++ r → r ++ z = putK K ++ Y → (∃ r, l.drop p = putK (t :: K) ++ r ∧ r ++ z = Y) ∨ (rdK (fun p n => RT l p n d) (t :: K).length p n).e = 3 := by
      intro r h1 h2
      have h3 := hT t (by simp) _ p n h1 (by omega)
      have hp2 : l.drop (p + (putT t).length) = r := by rw [← List.drop_drop, h1, List.drop_left]
      have hlen := congrArg List.length h1
      simp only [List.length_drop, List.length_append] at hlen
      rcases rdK_cut K z Y (p + (putT t).length) (n + t.nodes) (fun x hx => hT x (List.mem_cons_of_mem _ hx)) (fun x hx => hC x (List.mem_cons_of_mem _ hx)) (by omega) (by rw [hp2]; exact h2) (by omega) with ⟨r2, h4, h5⟩ | h4
      · refine .inl ⟨r2, ?_, h5⟩
        rw [h1, ← hp2, h4, putK_cons, List.append_assoc]
      · right
        show (consR (RT l p n d) (rdK (fun p n => RT l p n d) K.length)).e = 3
        rw [h3, consR_0 rfl, prep_e]
        exact h4
    rcases List.append_eq_append_iff.1 hp with ⟨a', h1, h2⟩ | ⟨b', h1, h2⟩
    · by_cases ha : a' = []
      · subst ha
        exact full [] (by rw [List.append_nil] at h1 ⊢; exact h1.symm) (by simpa using h2)
      · right
        have h3 := hC t (by simp) a' p n ha hpl h1.symm (by omega)
        show (consR (RT l p n d) (rdK (fun p n => RT l p n d) K.length)).e = 3
        rw [consR_bad (by omega)]
        exact h3
    · exact full b' h1 h2.symm

theorem bgn_tupP {l rest : List UInt8} {p n d c : Nat} (hc : c ≤ 40) (hl : l.drop p = 104 :: UInt8.ofNat c :: rest) (hn : n < 2000) (hd : d ≤ 60) : bgn l p n d = ⟨0, .mk 5 false [] ⟨#[]⟩ 0 [], c, p + 2, n + 1⟩ :=
  bgn_at (l := l) (rest := rest) (W := [UInt8.ofNat c]) (D := []) (b := 104) (p := p) (n := n) (d := d) (c := c) (s := ⟨104, 1, 0, 40, 0, 0⟩) rfl hl rfl (by simp [highL]; omega) (Nat.zero_le _) hc (by simp) hn hd (fun h => absurd h (by simp))
theorem high_put {c : Nat} (h : c < 4294967296) : highL (four c) = c := by
  simp only [highL, four, List.foldl_cons, List.foldl_nil, u8n]
  omega
theorem bgn_listP {l rest : List UInt8} {p n d c : Nat} (h1 : 1 ≤ c) (hc : c ≤ 2000 - n) (hl : l.drop p = 108 :: (four c ++ rest)) (hn : n < 2000) (hd : d ≤ 60) : bgn l p n d = ⟨0, .mk 4 false [] ⟨#[]⟩ 0 [], c + 1, p + 5, n + c⟩ :=
  bgn_at (l := l) (rest := rest) (W := four c) (D := []) (b := 108) (p := p) (n := n) (d := d) (c := c) (s := ⟨108, 4, 1, 2000, 0, 0⟩) rfl hl rfl (high_put (by omega)) h1 hc (by simp) hn hd (fun h => absurd h (by simp))
theorem tup_form {t : Tm} {d : Nat} (h : okD t d) (h5 : t.kind = 5) : t = tupT t.kids ∧ t.kids.length ≤ 40 := by
  have ha := h.alone
  refine ⟨?_, alone_5 ha h5⟩
  cases t with
  | mk k n L S N K =>
    simp only [Tm.kind] at h5
    subst h5
    unfold Tm.alone aloneK restB at ha
    simp [Tm.kind, Tm.neg, Tm.limbs, Tm.str, Tm.num, Tm.kids] at ha
    obtain ⟨-, ⟨⟨hn, hL⟩, hS⟩, hN⟩ := ha
    rw [hn, hL, no_str hS, hN]; rfl
theorem nodes_kid {t k : Tm} (h : k ∈ t.kids) : k.nodes < t.nodes := by
  obtain ⟨i, hi, rfl⟩ := List.getElem_of_mem h
  have hn := Tm.nodes_eq t
  have h2 := nodesL_app (t.kids.take i) (t.kids.drop i)
  rw [List.take_append_drop, List.drop_eq_getElem_cons hi] at h2
  simp only [nodesL] at h2
  omega
theorem mem_ndL {K : List Tm} {k : Tm} (h : k ∈ K) : k.nodes ≤ nodesL K := by
  obtain ⟨i, hi, rfl⟩ := List.getElem_of_mem h
  have h2 := nodesL_app (K.take i) (K.drop i)
  rw [List.take_append_drop, List.drop_eq_getElem_cons hi] at h2
  simp only [nodesL] at h2
  omega
/-- What is put is got. -/
theorem RT_put (l : List UInt8) : ∀ (m : Nat) (t : Tm), t.nodes ≤ m → ∀ (d : Nat) (rest : List UInt8) (p n : Nat), okD t d → okLm t → l.drop p = putT t ++ rest → n + t.nodes ≤ 2000 → RT l p n d = ⟨0, t, p + (putT t).length, n + t.nodes⟩
  | 0, t, hm => absurd (nodes_pos t) (by omega)
  | m + 1, t, hm => by
    intro d rest p n h hL hp hn
    have hn1 := nodes_pos t
    obtain ⟨H, tl, rfl, h4, hH⟩ := okD_split t.nodes t d (Nat.le_refl _) h
    by_cases hH0 : H = []
    · subst hH0
      have e0 : listT [] tl = tl := rfl
      rw [e0] at h hL hp hn hm hn1 ⊢
      by_cases h5 : tl.kind = 5
      · obtain ⟨e1, e2⟩ := tup_form h h5
        have hk := h.kid h4
        have hLk := okLmL_mem ((okLm_eq tl).1 hL).2
        have hnd : tl.nodes = 1 + nodesL tl.kids := by rw [Tm.nodes_eq]; omega
        rw [putT_5 h5] at hp
        have hb := bgn_tupP (l := l) (p := p) (n := n) (d := d) e2 hp (by omega) h.deep
        have hp2 : l.drop (p + 2) = putK tl.kids ++ rest := by rw [← List.drop_drop, hp]; rfl
        have hr := rdK_put (l := l) (d := d + 1) tl.kids rest (p + 2) (n + 1) (fun x hx rest p n h1 h2 => RT_put l m x (by have := nodes_kid hx; omega) (d + 1) rest p n (hk x hx) (hLk x hx) h1 h2) hp2 (by omega)
        rw [RT_eq l p n d (by omega), hb, putT_5 h5]
        unfold opnR
        rw [if_neg (fun h => h rfl)]
        by_cases hc0 : tl.kids.length = 0
        · have hk0 : tl.kids = [] := List.eq_nil_of_length_eq_zero hc0
          rw [if_pos hc0]
          rw [hk0] at e1 hnd ⊢
          simp only [Rs.mk.injEq, true_and, nodesL] at hnd ⊢
          exact ⟨e1.symm, by simp [putK], by omega⟩
        · rw [if_neg hc0, if_pos rfl, hr]
          unfold endT
          rw [if_neg (fun h => h rfl)]
          simp only [Rs.mk.injEq, true_and, List.length_cons]
          exact ⟨e1.symm, by omega, by omega⟩
      · exact RT_leaf h ((okLm_eq tl).1 hL).1 h4 h5 hp (by omega)
    · have hH1 : 0 < H.length := List.length_pos_iff.2 hH0
      obtain ⟨k1, k2⟩ := (okD_list tl d H).1 h
      obtain ⟨l1, l2⟩ := okLm_list tl H hL
      have hnl := nodes_list tl H
      have htl := nodes_pos tl
      rw [putT_list tl h4 H hH1, putK_app, putK_one] at hp
      have hlen : (putT (listT H tl)).length = 5 + (putK H).length + (putT tl).length := by
        rw [putT_list tl h4 H hH1, putK_app, putK_one]; simp [four]; omega
      have hb := bgn_listP (l := l) (p := p) (n := n) (d := d) (rest := putK H ++ putT tl ++ rest) (c := H.length) hH1 (by omega) (by rw [hp]; simp) (by omega) h.deep
      have hp2 : l.drop (p + 5) = putK H ++ (putT tl ++ rest) := by
        rw [← List.drop_drop, hp]
        simp [four]
      have hr := rdK_put (l := l) (d := d + 1) H (putT tl ++ rest) (p + 5) (n + H.length) (fun x hx rest p n h1 h2 => RT_put l m x (by have := mem_ndL hx; omega) (d + 1) rest p n (k1 x hx) (l1 x hx) h1 h2) hp2 (by omega)
      have hp3 : l.drop (p + 5 + (putK H).length) = putT tl ++ rest := by rw [← List.drop_drop, hp2, List.drop_left]
      have ht := RT_put l m tl (by omega) d rest (p + 5 + (putK H).length) (n + H.length + nodesL H) k2 l2 hp3 (by omega)
      rw [RT_eq l p n d (by omega), hb, hlen]
      unfold opnR
      rw [if_neg (fun h => h rfl), if_neg (show ¬ H.length + 1 = 0 by omega), if_neg (show ¬ (4 : Int) = 5 by decide)]
      simp only [Nat.add_sub_cancel]
      rw [hr]
      unfold endL
      rw [if_neg (fun h => h rfl)]
      simp only
      rw [ht]
      unfold tailL
      rw [if_neg (fun h => h rfl), if_neg h4]
      simp only [Rs.mk.injEq, true_and]
      omega
/-- Cut, it is too short. -/
theorem RT_cut (l : List UInt8) : ∀ (m : Nat) (t : Tm), t.nodes ≤ m → ∀ (d : Nat) (z : List UInt8) (p n : Nat), okD t d → okLm t → z ≠ [] → p ≤ l.length → l.drop p ++ z = putT t → n + t.nodes ≤ 2000 → (RT l p n d).e = 3
  | 0, t, hm => absurd (nodes_pos t) (by omega)
  | m + 1, t, hm => by
    intro d z p n h hL hz hpl hp hn
    have hn1 := nodes_pos t
    obtain ⟨H, tl, rfl, h4, hH⟩ := okD_split t.nodes t d (Nat.le_refl _) h
    have hz0 : 0 < z.length := List.length_pos_iff.2 hz
    by_cases hH0 : H = []
    · subst hH0
      have e0 : listT [] tl = tl := rfl
      rw [e0] at h hL hp hn hm hn1
      by_cases h5 : tl.kind = 5
      · obtain ⟨e1, e2⟩ := tup_form h h5
        have hk := h.kid h4
        have hLk := okLmL_mem ((okLm_eq tl).1 hL).2
        have hnd : tl.nodes = 1 + nodesL tl.kids := by rw [Tm.nodes_eq]; omega
        rw [putT_5 h5] at hp
        by_cases hcut : l.length < p + 2
        · -- cut ahead of its parts
          have hlen := congrArg List.length hp
          simp only [List.length_append, List.length_drop, List.length_cons] at hlen
          have hzz : ∃ z', z' ≠ [] ∧ l.drop p ++ z' = 104 :: ([UInt8.ofNat tl.kids.length] ++ []) := by
            refine ⟨(104 :: [UInt8.ofNat tl.kids.length]).drop (l.length - p), ?_, ?_⟩
            · intro e
              have := congrArg List.length e
              simp at this
              omega
            · have e3 : l.drop p = (104 :: [UInt8.ofNat tl.kids.length]).take (l.length - p) := by
                have h6 := congrArg (List.take (l.length - p)) hp
                rw [List.take_append_of_le_length (by simp), List.take_of_length_le (by simp)] at h6
                rw [h6, show (104 :: UInt8.ofNat tl.kids.length :: putK tl.kids) = (104 :: [UInt8.ofNat tl.kids.length]) ++ putK tl.kids by rfl, List.take_append_of_le_length (by simp; omega)]
              rw [e3, List.take_append_drop]
              rfl
          obtain ⟨z', hz', hl'⟩ := hzz
          have hb := bgn_cut (l := l) (z := z') (W := [UInt8.ofNat tl.kids.length]) (D := []) (b := 104) (p := p) (n := n) (d := d) (c := tl.kids.length) (s := ⟨104, 1, 0, 40, 0, 0⟩) rfl hz' hpl hl' rfl (by simp [highL]; omega) (Nat.zero_le _) e2 (by simp) (by omega) h.deep
          rw [RT_eq l p n d (by omega)]
          unfold opnR
          rw [if_pos (by omega)]
          exact hb
        · have hp2 : ∃ r, l.drop p = 104 :: UInt8.ofNat tl.kids.length :: r ∧ r ++ z = putK tl.kids := by
            have e3 : (l.drop p).take 2 = [104, UInt8.ofNat tl.kids.length] := by
              have h6 := congrArg (List.take 2) hp
              rw [List.take_append_of_le_length (by simp; omega)] at h6
              rw [h6]; rfl
            refine ⟨(l.drop p).drop 2, ?_, ?_⟩
            · have h7 := List.take_append_drop 2 (l.drop p)
              rw [e3] at h7
              exact h7.symm
            · have h6 := congrArg (List.drop 2) hp
              rw [List.drop_append_of_le_length (by simp; omega)] at h6
              exact h6
          obtain ⟨r, hr1, hr2⟩ := hp2
          have hb := bgn_tupP (l := l) (p := p) (n := n) (d := d) e2 hr1 (by omega) h.deep
          have hp3 : l.drop (p + 2) = r := by rw [← List.drop_drop, hr1]; rfl
          rcases rdK_cut (l := l) (d := d + 1) tl.kids z [] (p + 2) (n + 1) (fun x hx rest p n h1 h2 => RT_put l m x (by have := nodes_kid hx; omega) (d + 1) rest p n (hk x hx) (hLk x hx) h1 h2) (fun x hx z p n g1 g2 g3 g4 => RT_cut l m x (by have := nodes_kid hx; omega) (d + 1) z p n (hk x hx) (hLk x hx) g1 g2 g3 g4) (by omega) (by rw [hp3, List.append_nil]; exact hr2) (by omega) with ⟨r2, -, h8⟩ | h8
          · exact absurd (List.append_eq_nil_iff.1 h8).2 hz
          · rw [RT_eq l p n d (by omega), hb]
            unfold opnR
            rw [if_neg (fun h => h rfl)]
            by_cases hc0 : tl.kids.length = 0
            · rw [hc0] at h8
              cases h8
            · rw [if_neg hc0, if_pos rfl]
              unfold endT
              rw [if_pos (show (rdK (fun p n => RT l p n (d + 1)) tl.kids.length (p + 2) (n + 1)).e ≠ 0 by rw [h8]; decide)]
              exact h8
      · exact leaf_cut h ((okLm_eq tl).1 hL).1 h4 h5 hz hpl hp (by omega)
    · have hH1 : 0 < H.length := List.length_pos_iff.2 hH0
      obtain ⟨k1, k2⟩ := (okD_list tl d H).1 h
      obtain ⟨l1, l2⟩ := okLm_list tl H hL
      have hnl := nodes_list tl H
      have htl := nodes_pos tl
      rw [putT_list tl h4 H hH1, putK_app, putK_one] at hp
      by_cases hcut : l.length < p + 5
      · have hlen := congrArg List.length hp
        simp only [List.length_append, List.length_drop, List.length_cons, four_len] at hlen
        have hzz : ∃ z', z' ≠ [] ∧ l.drop p ++ z' = 108 :: (four H.length ++ []) := by
          refine ⟨(108 :: four H.length).drop (l.length - p), ?_, ?_⟩
          · intro e
            have := congrArg List.length e
            simp [four] at this
            omega
          · have e3 : l.drop p = (108 :: four H.length).take (l.length - p) := by
              have h6 := congrArg (List.take (l.length - p)) hp
              rw [List.take_append_of_le_length (by simp), List.take_of_length_le (by simp)] at h6
              rw [h6, show (108 :: (four H.length ++ (putK H ++ putT tl))) = (108 :: four H.length) ++ (putK H ++ putT tl) by rfl, List.take_append_of_le_length (by simp [four]; omega)]
            rw [e3, List.take_append_drop, List.append_nil]
        obtain ⟨z', hz', hl'⟩ := hzz
        have hb := bgn_cut (l := l) (z := z') (W := four H.length) (D := []) (b := 108) (p := p) (n := n) (d := d) (c := H.length) (s := ⟨108, 4, 1, 2000, 0, 0⟩) rfl hz' hpl hl' rfl (high_put (by omega)) hH1 (show H.length ≤ 2000 - n by omega) (by simp) (by omega) h.deep
        rw [RT_eq l p n d (by omega)]
        unfold opnR
        rw [if_pos (by omega)]
        exact hb
      · have hp2 : ∃ r, l.drop p = 108 :: (four H.length ++ r) ∧ r ++ z = putK H ++ putT tl := by
          have e3 : (l.drop p).take 5 = 108 :: four H.length := by
            have h6 := congrArg (List.take 5) hp
            rw [List.take_append_of_le_length (by simp; omega)] at h6
            rw [h6]; rfl
          refine ⟨(l.drop p).drop 5, ?_, ?_⟩
          · have h7 := List.take_append_drop 5 (l.drop p)
            rw [e3] at h7
            exact h7.symm
          · have h6 := congrArg (List.drop 5) hp
            rw [List.drop_append_of_le_length (by simp; omega)] at h6
            exact h6
        obtain ⟨r, hr1, hr2⟩ := hp2
        have hb := bgn_listP (l := l) (p := p) (n := n) (d := d) (c := H.length) hH1 (by omega) hr1 (by omega) h.deep
        have hp3 : l.drop (p + 5) = r := by
          rw [← List.drop_drop, hr1]; rfl
        rw [RT_eq l p n d (by omega), hb]
        unfold opnR
        rw [if_neg (fun h => h rfl), if_neg (show ¬ H.length + 1 = 0 by omega), if_neg (show ¬ (4 : Int) = 5 by decide)]
        simp only [Nat.add_sub_cancel]
        have hput : ∀ x ∈ H, ∀ (rest : List UInt8) (p n : Nat), l.drop p = putT x ++ rest → n + x.nodes ≤ 2000 → RT l p n (d + 1) = ⟨0, x, p + (putT x).length, n + x.nodes⟩ := fun x hx rest p n h1 h2 => RT_put l m x (by have := mem_ndL hx; omega) (d + 1) rest p n (k1 x hx) (l1 x hx) h1 h2
        rcases rdK_cut (l := l) (d := d + 1) H z (putT tl) (p + 5) (n + H.length) hput (fun x hx z p n g1 g2 g3 g4 => RT_cut l m x (by have := mem_ndL hx; omega) (d + 1) z p n (k1 x hx) (l1 x hx) g1 g2 g3 g4) (by omega) (by rw [hp3]; exact hr2) (by omega) with ⟨r2, h7, h8⟩ | h8
        · have hr := rdK_put (l := l) (d := d + 1) H r2 (p + 5) (n + H.length) hput h7 (by omega)
          have hp4 : l.drop (p + 5 + (putK H).length) = r2 := by rw [← List.drop_drop, h7, List.drop_left]
          have hlen := congrArg List.length h7
          simp only [List.length_drop, List.length_append] at hlen
          have ht := RT_cut l m tl (by omega) d z (p + 5 + (putK H).length) (n + H.length + nodesL H) k2 l2 hz (by omega) (by rw [hp4]; exact h8) (by omega)
          rw [hr]
          unfold endL
          rw [if_neg (fun h => h rfl)]
          unfold tailL
          simp only
          rw [if_pos (by omega)]
          exact ht
        · unfold endL
          rw [if_pos (by omega)]
          exact h8
end Go.Proofs.YtbmondbicnfcpaaDoor
