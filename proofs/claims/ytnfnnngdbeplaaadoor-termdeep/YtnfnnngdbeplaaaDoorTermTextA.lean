
/-
  term.ownText; the texts of terms.
-/
import Derived.Test.YtnfnnngdbeplaaaDoorTermSpell
import Derived.Test.YtnfnnngdbeplaaaDoorTermBuild
import Derived.Test.YtnfnnngdbeplaaaDoorNumText
namespace Go.Proofs.YtnfnnngdbeplaaaDoor
open Go.RowKit
set_option linter.unusedVariables false
set_option linter.unusedSimpArgs false

/-- The text of a term that has no parts in it: numbers, atoms, nil. -/
def ownT (t : Tm) : ByteArray := if t.kind = 1 then strOfNums (decL (val t.neg t.limbs)) else if t.kind = 2 then t.str else ⟨#[91, 93]⟩

set_option maxHeartbeats 2000000 in
theorem ownText_any (t : Tm) (v : Value) (w : World) (h : IsT w t v) (hk : t.kind = 1 ∨ t.kind = 2 ∨ t.kind = 3) : Calls Tryd.prog 41 #[v] w fun e w' => e = .returned (.string (ownT t)) ∧ Below w.heap.size w w' := by
  obtain ⟨sl, sk, rfl, hl, hkk, -, -, -⟩ := h.open
  obtain ⟨pl, cl, rfl⟩ := hl.shape
  obtain ⟨pk, ck, rfl, -⟩ := hkk.shape
  simp only [tmV] at *
  obtain ⟨q, hq⟩ : ∃ q, ownT t = q := ⟨_, rfl⟩
  have HQ : Hid (ownT t = q) := hq
  rw [hq]
  clear hq h
  obtain ⟨kk, hkd⟩ : ∃ kk, t.kind = kk := ⟨_, rfl⟩
  have HQ2 : Hid (q = if kk = 1 then strOfNums (decL (val t.neg t.limbs)) else if kk = 2 then t.str else ⟨#[91, 93]⟩) := by show q = _; rw [← HQ.out, ownT, hkd]
  rw [hkd] at hk ⊢
  clear hkd HQ
  rcases hk with rfl | rfl | rfl
  · have HZ : Hid (q = strOfNums (decL (val t.neg t.limbs))) := by show q = _; rw [HQ2.out, if_pos rfl]
    clear HQ2
    have hb1 := (Below.refl w.heap.size w).alloc (Nat.le_refl _) (.cells #[.int .i64 1, .bool t.neg, .slice pl t.limbs.length cl, .string t.str, .int .i64 t.num, .slice pk t.kids.length ck] 27)
    have qn : Nx (w.alloc (.cells #[.int .i64 1, .bool t.neg, .slice pl t.limbs.length cl, .string t.str, .int .i64 t.num, .slice pk t.kids.length ck] 27)) (.agg #[.bool t.neg, .slice pl t.limbs.length cl]) (val t.neg t.limbs) := ⟨t.neg, t.limbs, ⟨_, rfl, hl.below hb1⟩, rfl⟩
    go_enter Tryd.func41, Tryd.ntmps41
    go_wp2_with fail
    refine (text_any _ _ _ qn).mono ?_
    rintro e w1 ⟨rfl, b1⟩
    have hbw := hb1.trans (b1.mono hb1.size)
    clear hb1 b1 qn
    go_wp2_with fail
    go_ret
    exact ⟨by rw [HZ.out]; rfl, hbw⟩
  · have HZ : Hid (q = t.str) := by show q = _; rw [HQ2.out, if_neg (by decide), if_pos rfl]
    clear HQ2
    go_enter Tryd.func41, Tryd.ntmps41
    go_wp2_with fail
    go_ret
    exact ⟨by rw [HZ.out]; rfl, (Below.refl _ _).alloc (Nat.le_refl _) _⟩
  · have HZ : Hid (q = ⟨#[91, 93]⟩) := by show q = _; rw [HQ2.out, if_neg (by decide), if_neg (by decide)]
    clear HQ2
    go_enter Tryd.func41, Tryd.ntmps41
    go_wp2_with fail
    go_ret
    exact ⟨by rw [HZ.out]; rfl, (Below.refl _ _).alloc (Nat.le_refl _) _⟩

mutual
/-- The text of a term. -/
def txt : Tm → List UInt8
  | .mk k n L S N K => if k = 4 then 91 :: (txtC K ++ [93]) else if k = 5 then 123 :: (txtL K ++ [125]) else (ownT (.mk k n L S N K)).data.toList
/-- With commas between. -/
def txtL : List Tm → List UInt8
  | [] => []
  | t :: r => txt t ++ txtM 44 r
/-- With a bar between, of the first two. -/
def txtC : List Tm → List UInt8
  | [] => []
  | t :: r => txt t ++ txtM 124 r
def txtM (c : UInt8) : List Tm → List UInt8
  | [] => []
  | t :: r => c :: (txt t ++ txtM c r)
end
mutual
/-- Terms that have a text here: numbers, atoms, nil, pairs, tuples. -/
def spk : Tm → Prop
  | .mk k n L S N K => if k = 4 then K.length = 2 ∧ spkL K else if k = 5 then spkL K else (k = 1 ∨ k = 2 ∨ k = 3)
def spkL : List Tm → Prop
  | [] => True
  | t :: r => spk t ∧ spkL r
end
mutual
/-- How often a term is taken up till its text is told. -/
def wt : Tm → Nat
  | .mk k n L S N K => if k = 4 ∨ k = 5 then 4 + 2 * K.length + wtL K else 1
def wtL : List Tm → Nat
  | [] => 0
  | t :: r => wt t + wtL r
end
theorem wt_pos (t : Tm) : 1 ≤ wt t := by cases t; simp only [wt]; split <;> omega
theorem wt_mark (s : ByteArray) : wt (tmMark s) = 1 := by simp [wt, tmMark]
theorem spk_mark (s : ByteArray) : spk (tmMark s) := by simp [spk, tmMark]
theorem txt_mark (s : ByteArray) : txt (tmMark s) = s.data.toList := by simp [txt, tmMark, ownT, Tm.kind, Tm.str]

/-- The text of those that wait: the last one first. -/
def stT : List (Value × Tm) → List UInt8
  | [] => []
  | p :: r => stT r ++ txt p.2
def stW : List (Value × Tm) → Nat
  | [] => 0
  | p :: r => stW r + wt p.2
theorem stT_app (a b : List (Value × Tm)) : stT (a ++ b) = stT b ++ stT a := by
  induction a with
  | nil => simp [stT]
  | cons x r ih => simp [stT, ih]
theorem stW_app (a b : List (Value × Tm)) : stW (a ++ b) = stW b + stW a := by
  induction a with
  | nil => simp [stW]
  | cons x r ih => simp [stW, ih]; omega
theorem stW_len (a : List (Value × Tm)) : a.length ≤ stW a := by
  induction a with
  | nil => simp
  | cons x r ih => have := wt_pos x.2; simp [stW]; omega

/-- Texts joined by a sign. -/
def joinC (c : UInt8) : List Tm → List UInt8
  | [] => []
  | t :: r => txt t ++ txtM c r
theorem joinC_44 (K : List Tm) : joinC 44 K = txtL K := by cases K <;> simp [joinC, txtL]
theorem joinC_124 (K : List Tm) : joinC 124 K = txtC K := by cases K <;> simp [joinC, txtC]

theorem Came.snoc {w0 : World} {K : List Tm} {q : List (El w0)} {x : El w0} (h : Came K (q ++ [x])) : Came K q ∧ x.i + q.length + 1 = K.length ∧ K[x.i]? = some x.t := by
  obtain ⟨h1, h2⟩ := h
  refine ⟨⟨by simp at h1; omega, fun j hj => ?_⟩, ?_⟩
  · have := h2 j (by simp; omega)
    rwa [List.getElem_append_left hj] at this
  · have := h2 q.length (by simp)
    rw [List.getElem_append_right (by omega)] at this
    simpa using this

theorem sp_text {w0 : World} (K : List Tm) (m : ByteArray) (c : UInt8) (hm : m.data.toList = [c]) : ∀ (n : Nat) (pre : List (El w0)), pre.length = n → Came K pre →
    stT (spieces m pre) = (if pre.length = K.length then joinC c K else txtM c (K.drop (K.length - pre.length))) ∧ stW (spieces m pre) ≤ wtL (K.drop (K.length - pre.length)) + pre.length ∧ (∀ p ∈ spieces m pre, (∃ y ∈ K, p.2 = y ∧ IsT w0 y p.1) ∨ p = (mkV m, tmMark m)) := by
  intro n
  induction n with
  | zero =>
    intro pre hl hc
    obtain rfl : pre = [] := List.eq_nil_of_length_eq_zero hl
    refine ⟨?_, by simp [spieces, stW], by simp [spieces]⟩
    simp only [spieces, List.flatMap_nil, stT, List.length_nil, Nat.sub_zero, List.drop_length, txtM]
    split
    · rename_i h
      have : K = [] := List.eq_nil_of_length_eq_zero h.symm
      rw [this]; rfl
    · rfl
  | succ n ih =>
    intro pre hl hc
    rcases snoc_or pre with rfl | ⟨q, x, rfl⟩
    · simp at hl
    · obtain ⟨hq, hi, hk⟩ := hc.snoc
      obtain ⟨e1, e2, e3⟩ := ih q (by simpa using hl) hq
      have hlt : x.i < K.length := (List.getElem?_eq_some_iff.1 hk).1
      have hki : K[x.i] = x.t := by
        have := List.getElem?_eq_getElem hlt
        rw [hk] at this
        injection this with this
        exact this.symm
      have hd : K.drop x.i = x.t :: K.drop (x.i + 1) := by rw [List.drop_eq_getElem_cons hlt, hki]
      have hne : ¬ q.length = K.length := by omega
      have hs1 : K.length - q.length = x.i + 1 := by omega
      have hs2 : K.length - (q ++ [x]).length = x.i := by simp; omega
      rw [if_neg hne, hs1] at e1
      rw [hs1] at e2
      have hmark : txt (tmMark m) = [c] := by rw [txt_mark]; exact hm
      rw [spieces_snoc]
      refine ⟨?_, ?_, ?_⟩
      · rw [stT_app, e1, hs2]
        by_cases h0 : 0 < x.i
        · have h0' : ¬ (q ++ [x]).length = K.length := by simp; omega
          rw [if_neg h0', hd]
          simp [spiece, h0, stT, txtM, hmark]
        · have h0' : (q ++ [x]).length = K.length := by simp; omega
          have hx0 : x.i = 0 := by omega
          rw [if_pos h0']
          have hK : K = x.t :: K.drop (x.i + 1) := by rw [← hd, hx0]; rfl
          rw [hK]
          simp [spiece, hx0, stT, joinC]
      · rw [stW_app, hs2, hd]
        have hwl : wtL (x.t :: K.drop (x.i + 1)) = wt x.t + wtL (K.drop (x.i + 1)) := by simp [wtL]
        rw [hwl]
        have : stW (spiece m x) ≤ wt x.t + 1 := by
          unfold spiece
          split <;> simp [stW, wt_mark]; omega
        simp; omega
      · intro p hp
        rcases List.mem_append.1 hp with h | h
        · exact e3 p h
        · unfold spiece at h
          rcases List.mem_cons.1 h with h | h
          · left
            exact ⟨x.t, List.mem_of_getElem? hk, by rw [h], by rw [h]; exact x.h⟩
          · right
            split at h
            · simpa using h
            · simp at h
end Go.Proofs.YtnfnnngdbeplaaaDoor
