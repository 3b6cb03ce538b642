/-
  The document's own answers of layer 2 (relictref02): Text.
-/
import Derived.Test.YtmhcgdigccaogaaNumRef
import Derived.Test.YtmhcgdigccaogaaRefZ
import Derived.Test.YtmhcgdigccaogaaNumDec
namespace Go.Proofs.Ytmhcgdigccaogaa
open Go.RowKit
set_option linter.unusedVariables false
set_option linter.unusedSimpArgs false

/-- The signs of a number's digits, the lowest first; none of 0. -/
def dz (n : Nat) : List Int := if n = 0 then [] else dg n
theorem dz_step {n : Nat} (h : 0 < n) : dz n = (48 + ((n % 10 : Nat) : Int)) :: dz (n / 10) := by
  unfold dz
  rw [if_neg (by omega)]
  by_cases h1 : n < 10
  · rw [dg_small h1, if_pos (by omega), show n % 10 = n by omega]
  · rw [dg_big h1, if_neg (by omega)]
theorem dz_len {A : Nat} (h : (A : Int) < B 12) : (dz A).length ≤ 116 := by
  unfold dz
  split
  · simp
  · exact (dec_small h).2

theorem digit_cut {d : Nat} (h : d < 10) : (ByteArray.mk #[48, 49, 50, 51, 52, 53, 54, 55, 56, 57]).extract d (d + 1) = strOfNums [48 + (d : Int)] := by
  have : d = 0 ∨ d = 1 ∨ d = 2 ∨ d = 3 ∨ d = 4 ∨ d = 5 ∨ d = 6 ∨ d = 7 ∨ d = 8 ∨ d = 9 := by omega
  rcases this with rfl | rfl | rfl | rfl | rfl | rfl | rfl | rfl | rfl | rfl <;> rfl

def TzRel (w : World) (A gk : Nat) (ss sl : Value) (wr : World) : Prop :=
  ∃ L D, ss = .string (strOfNums (List.reverse D)) ∧ Sl wr sl L ∧ Nm L ∧ V L = (gk : Int) ∧ dz A = D ++ dz gk ∧ gk ≤ A ∧ Below w.heap.size w wr

theorem lit_D (w : World) : Sl (w.alloc (.cells #[.int .u32 10] 53)) (.slice (some ⟨w.heap.size, 0, none⟩) 1 1) [10] := sl_lit w 10 (by decide) (by decide)

set_option maxHeartbeats 4000000 in
set_option maxRecDepth 100000 in
theorem rtext_any (v : Value) (x : Int) (w : World) (h : Nx w v x) : Calls Try.prog 26 #[v] w fun e w' => TextPost w x e w' := by
  have h0 := h
  obtain ⟨neg, zs, ⟨s, rfl, hs⟩, hv⟩ := h
  obtain ⟨p, c, rfl⟩ := hs.shape
  have hb1 := (Below.refl w.heap.size w).alloc (Nat.le_refl _) (.cells #[.bool neg, .slice p zs.length c] 24)
  have h1 := h0.below hb1
  clear h0 hv hs
  go_enter Try.func26, Try.ntmps26
  go_wp2_with fail
  refine (ris_any _ x _ h1).mono ?_
  rintro e w1 ⟨v1, rfl, i1, hb2⟩
  obtain ⟨n1, p1, z1, c1, rfl, t1, g1, e1⟩ := i1.open
  have hbw := hb1.trans (hb2.mono (by simp))
  have bd := (Below.refl w1.heap.size w1).alloc (Nat.le_refl _) (.cells #[.bool n1, .slice p1 z1.length c1] 24)
  have ub := Bx.new w1 n1 p1 z1.length c1
  have t2 := t1.below bd
  have hb3 := hbw.trans (bd.mono hbw.size)
  obtain ⟨A, hA⟩ := Int.eq_ofNat_of_zero_le (V_nonneg t1.ok)
  have hA12 : (A : Int) < B 12 := by rw [← hA]; exact (room_len t1.ok g1.2.1).1 g1.1
  have hsg := Z_pos g1 t1.ok
  rw [e1] at hsg
  have hab : x.natAbs = A := by rw [← e1]; exact natAbs_Z n1 t1.ok hA
  have hnp : n1 = true → 0 < A := fun hn => by have := hsg.1 hn; omega
  have HT : Hid (decL x = if n1 = true then 45 :: (dg A).reverse else (dg A).reverse) := by
    show decL x = _
    unfold decL
    rw [hab]
    cases n1
    · rw [if_neg (by have := hsg.2 rfl; omega)]; rfl
    · rw [if_pos (hsg.1 rfl)]; rfl
  have HA : Hid (V z1 = (A : Int)) := hA
  have HB : Hid ((A : Int) < B 12) := hA12
  have hnm : Nm z1 := g1.2.1
  clear hb1 hb2 h1 i1 t1 g1 e1 hbw bd hA hA12 hsg hab
  obtain ⟨c0, c1', -⟩ := ub.facts
  go_wp2_with fail
  generalize w1.alloc (.cells #[.bool n1, .slice p1 z1.length c1] 24) = w2 at *
  generalize w1.heap.size = gb at *
  have hlt := ub.lt
  clear c0 c1'
  go_loopg [4, 5] A (fun gk ss sl wr => TzRel w2 A gk ss sl wr)
  case atStart => exact ⟨z1, [], rfl, t2, hnm, HA.out, rfl, Nat.le_refl _, Below.refl _ _⟩
  case round =>
    obtain ⟨L, D, rfl, sL, nL, vL, hD, hgA, hB⟩ := hrel
    have HD : Hid (dz A = D ++ dz gk) := hD
    have hDl : D.length ≤ 116 := by
      have := dz_len HB.out
      rw [hD] at this
      simp at this; omega
    have hl12 : L.length ≤ 12 := (room_len sL.ok nL).2 (by rw [vL]; have := HB.out; omega)
    clear hD
    have VL : Hid (V L = (gk : Int)) := vL
    obtain ⟨pl, cl, rfl⟩ := sL.shape
    cases gk with
    | zero =>
      have hLe : L.length = 0 := by rw [len_zero sL.ok nL vL]; rfl
      rw [hLe]
      have u3 := ub.under hB
      have hbF := hb3.trans (hB.mono hb3.size)
      clear ub vL hl12 sL nL VL hLe hgA
      obtain ⟨c0, c1', -⟩ := u3.facts
      obtain ⟨sv, hsv⟩ : ∃ sv, sv = strOfNums (List.reverse D) := ⟨_, rfl⟩
      rw [← hsv]
      by_cases hA0 : A = 0
      · have hDn : D = [] := by
          have := HD.out
          simp [dz, hA0] at this
          exact this
        have hse : sv.toList.isEmpty = true := by rw [hsv, hDn, Lib.toList_data]; rfl
        have HF : Hid (TextPost w x (.returned (.string ⟨#[48]⟩)) wr) := by
          refine ⟨?_, hbF⟩
          rw [HT.out]
          cases n1
          · rw [hA0, dg_small (by decide)]; rfl
          · have := hnp rfl; omega
        clear hnp hDn hsv hA0
        go_wp2_with fail
        go_ret
        exact HF.out
      · have hDn : D = dg A := by
          have := HD.out
          simp [dz, hA0] at this
          exact this.symm
        have hne := dg_ne A
        have hse : sv.toList.isEmpty = false := by
          cases h : sv.toList.isEmpty
          · rfl
          · have h2 := congrArg List.length (List.isEmpty_iff.1 h)
            rw [Lib.toList_data, ← Lib.size_eq, hsv, strOfNums_size, hDn, List.length_reverse] at h2
            exact absurd (List.eq_nil_of_length_eq_zero h2) hne
        have hsz : (sv.size : Int) ≤ 116 := by rw [hsv, strOfNums_size, List.length_reverse]; omega
        have HF : Hid (TextPost w x (.returned (.string (if n1 = true then ⟨#[45]⟩ ++ sv else sv))) wr) := by
          refine ⟨?_, hbF⟩
          rw [HT.out, hsv, hDn]
          cases n1
          · rfl
          · simp only [if_pos rfl]
            have := str_append [45] (dg A).reverse
            exact congrArg (fun s => Ending.returned (.string s)) this
        clear hnp hDn hsv hne
        cases n1
        · go_wp2_with fail
          go_ret
          exact HF.out
        · go_wp2_with fail
          go_ret
          exact HF.out
    | succ q =>
      have hL0 : 0 < L.length := by
        refine Nat.pos_of_ne_zero fun e => ?_
        obtain rfl : L = [] := List.eq_nil_of_length_eq_zero e
        simp [V] at vL; omega
      have hL0' : (0 : Int) < (L.length : Int) := by omega
      clear vL
      go_wp2_with fail
      have bd := (Below.refl wr.heap.size wr).alloc (Nat.le_refl _) (.cells #[.int .u32 10] 53)
      refine (rdiv_any _ _ L [10] _ (sL.below bd) (lit_D wr) (by omega) (by simp)).mono ?_
      rintro e w4 ⟨v3, v4, z3, z4, rfl, s3, s4, n3, n4, l3, l4, b4, -, hdv⟩
      have hV10 : V [10] = 10 := by simp [V]
      rw [hV10, VL.out] at hdv
      obtain ⟨hd1, hd2⟩ := hdv (by decide)
      have h30 := V_nonneg s3.ok
      have h40 := V_nonneg s4.ok
      obtain ⟨p3, c3, rfl⟩ := s3.shape
      obtain ⟨p4, c4, rfl⟩ := s4.shape
      have hBF := hB.trans ((bd.trans (b4.mono bd.size)).mono hB.size)
      have HQ : Hid (V z3 = (((q + 1) / 10 : Nat) : Int) ∧ V z4 = (((q + 1) % 10 : Nat) : Int)) := by
        constructor <;> omega
      clear hd1 hd2 hdv h30 h40 b4 bd hB sL nL VL
      obtain ⟨d, hd⟩ : ∃ d, d = (q + 1) % 10 := ⟨_, rfl⟩
      have hd10 : d < 10 := by omega
      have HN : Hid (dz A = (D ++ [48 + (d : Int)]) ++ dz ((q + 1) / 10)) := by
        show _ = _
        rw [HD.out, dz_step (by omega), hd]; simp
      have HQ4 : V z4 = (d : Int) := by rw [HQ.out.2, hd]
      obtain ⟨sv, hsv⟩ : ∃ sv, sv = strOfNums (List.reverse D) := ⟨_, rfl⟩
      have hsz : (sv.size : Int) ≤ 116 := by rw [hsv, strOfNums_size, List.length_reverse]; omega
      have HS : Hid ((ByteArray.mk #[48, 49, 50, 51, 52, 53, 54, 55, 56, 57]).extract d (d + 1) ++ sv = strOfNums (List.reverse (D ++ [48 + (d : Int)]))) := by
        show _ = _
        rw [digit_cut hd10, hsv, str_append]; simp
      rw [← hsv]
      clear hd hsv
      have HG : Hid (TzRel w2 A ((q + 1) / 10) (.string (strOfNums (List.reverse (D ++ [48 + (d : Int)])))) (.slice p3 z3.length c3) w4) :=
        ⟨z3, _, rfl, s3, n3, HQ.out.1, HN.out, by omega, hBF⟩
      by_cases hz4 : z4 = []
      · obtain rfl : d = 0 := by rw [hz4] at HQ4; simp [V] at HQ4; omega
        have h40 : z4.length = 0 := by rw [hz4]; rfl
        rw [h40]
        clear hz4 h40 s4 n4 l4 HQ4
        go_wp2_with fail
        rw [HS.out]
        go_roundg ((q + 1) / 10)
        case measure => omega
        case rel => exact HG.out
      · have h41 : 0 < z4.length := Nat.pos_of_ne_zero fun e => hz4 (List.eq_nil_of_length_eq_zero e)
        have h42 : (0 : Int) < (z4.length : Int) := by omega
        have hone : z4 = [(d : Int)] := by
          rcases z4 with _ | ⟨a, r⟩
          · exact absurd rfl hz4
          · simp only [V] at HQ4
            have ha := s4.ok a (by simp)
            have hr : Ok r := fun z hz => s4.ok z (by simp [hz])
            have h0 := V_nonneg hr
            have h1 : V r = 0 := by omega
            have h2 : r = [] := by
              refine len_zero hr ?_ h1
              intro h3
              have := n4 (by simp)
              rw [show (a :: r).length - 1 = (r.length - 1) + 1 by simp; omega] at this
              simpa [List.getD] using this
            subst h2
            simp [V] at HQ4
            rw [HQ4]
        obtain ⟨b4, o4, rfl, hc4⟩ := s4.at 0 h41
        rw [hone] at hc4
        have hc5 : w4.cell? ⟨b4, o4, none⟩ = some (.int .u32 (d : Int)) := by simpa [List.getD] using hc4
        have hd0 : (d : Int) < 10 := by omega
        clear hc4 hone hz4 s4 n4 l4 HQ4
        go_wp2_with fail
        rw [HS.out]
        go_roundg ((q + 1) / 10)
        case measure => omega
        case rel => exact HG.out
end Go.Proofs.Ytmhcgdigccaogaa
