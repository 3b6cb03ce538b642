/-
  The document's own answers of layer 2 (relictref02): Parse.
-/
import Derived.Test.YtmhcgdigccaogaaNumRefT
namespace Go.Proofs.Ytmhcgdigccaogaa
open Go.RowKit
set_option linter.unusedVariables false
set_option linter.unusedSimpArgs false

/-- The first k bytes, without the sign. -/
def pre (m : Bool) (L : List UInt8) (k : Nat) : List UInt8 := (L.take k).drop (if m = true then 1 else 0)
theorem pre_zero (m : Bool) (L : List UInt8) : pre m L 0 = [] := by simp [pre]
theorem pre_sign (L : List UInt8) : pre true L (0 + 1) = [] := by
  unfold pre
  rw [if_pos rfl]
  exact List.eq_nil_of_length_eq_zero (by simp)
theorem pre_all (L : List UInt8) : pre (isM L) L L.length = offM L := by
  unfold pre offM
  rw [List.take_length]
  cases isM L <;> simp
theorem pre_more (m : Bool) (L : List UInt8) (k : Nat) (b : UInt8) (hb : L[k]? = some b) (h : 0 < k ∨ m = false) : pre m L (k + 1) = pre m L k ++ [b] := by
  have hk : k < L.length := (List.getElem?_eq_some_iff.1 hb).1
  unfold pre
  rw [List.take_add_one, hb, List.drop_append_of_le_length]
  · rfl
  · cases m
    · simp
    · rcases h with h | h
      · simp; omega
      · cases h
theorem off_mem (L : List UInt8) (k : Nat) (b : UInt8) (hb : L[k]? = some b) (h : 0 < k ∨ isM L = false) : b ∈ offM L := by
  unfold offM
  split
  · rename_i hm
    rcases h with h | h
    · refine List.mem_of_getElem? (i := k - 1) ?_
      rw [List.getElem?_drop, show 1 + (k - 1) = k by omega]
      exact hb
    · rw [hm] at h; cases h
  · exact List.mem_of_getElem? hb

theorem parse_digits {s : ByteArray} {y : Int} (h : parseS s = some y) : ∀ b ∈ offM s.data.toList, 48 ≤ (b.toNat : Int) ∧ (b.toNat : Int) ≤ 57 := by
  intro b hb
  rw [parse_back h, str_bys, (isM_dec y).2] at hb
  obtain ⟨z, hz, rfl⟩ := List.mem_map.1 hb
  have := dg_range (List.mem_reverse.1 hz)
  rw [UInt8.toNat_ofNat']
  omega
theorem parse_non {s : ByteArray} {k : Nat} {b : UInt8} (hb : s.data.toList[k]? = some b) (h : 0 < k ∨ isM s.data.toList = false) (hd : (b.toNat : Int) < 48 ∨ 57 < (b.toNat : Int)) : parseS s = none := by
  cases hp : parseS s with
  | none => rfl
  | some y =>
    have := parse_digits hp b (off_mem _ k b hb h)
    omega
theorem rd_from (L : List UInt8) : ∀ a : Int, 0 ≤ a → 0 ≤ L.foldl (fun a b => a * 10 + dgt b) a := by
  induction L with
  | nil => intro a h; exact h
  | cons b t ih =>
    intro a h
    have := dgt_bd b
    exact ih _ (by show 0 ≤ a * 10 + dgt b; omega)
theorem rd_nonneg (L : List UInt8) : 0 ≤ rd L := rd_from L 0 (Int.le_refl _)
theorem parse_wide {s : ByteArray} (h : fitS (parseX s) = none) : parseS s = none := by
  unfold parseS
  rw [if_neg]
  rintro ⟨-, ⟨h1, -⟩, -⟩
  unfold fitS at h
  rw [if_pos] at h
  · cases h
  · have h0 : 0 ≤ rd (offM s.data.toList) := rd_nonneg _
    unfold parseX
    cases isM s.data.toList <;> simp [Z] <;> omega
theorem parse_other {s : ByteArray} (h : strOfNums (decL (parseX s)) ≠ s) : parseS s = none := by
  unfold parseS
  rw [if_neg]
  rintro ⟨-, -, h1⟩
  exact h h1
theorem fit_some {x z : Int} (h : fitS x = some z) : z = x ∧ -(B 12) < x ∧ x < B 12 := by
  unfold fitS at h
  split at h
  · rename_i hc
    injection h with h
    exact ⟨h.symm, hc.1, hc.2⟩
  · cases h
theorem parse_fits {s : ByteArray} {z : Int} (h0 : s.size ≤ 200) (h : fitS (parseX s) = some z) (ht : strOfNums (decL (parseX s)) = s) : parseS s = some z := by
  obtain ⟨rfl, h1, h2⟩ := fit_some h
  have h3 := parse_dec h1 h2
  rw [ht] at h3
  exact h3

theorem isM_none (s : ByteArray) (h : ¬ 0 < s.size) : isM s.data.toList = false := by
  have : s.data.toList = [] := List.eq_nil_of_length_eq_zero (by rw [← Lib.size_eq]; omega)
  rw [this]; rfl
theorem isM_head (s : ByteArray) (h : 0 < s.size) : isM s.data.toList = ((s[0].toNat : Int) == 45) := by
  have hg := Lib.data_getElem? s 0 h
  cases hL : s.data.toList with
  | nil => rw [hL] at hg; cases hg
  | cons b t =>
    rw [hL] at hg
    have e : b = s[0] := by simpa using hg
    rw [← e]
    unfold isM
    rw [Bool.eq_iff_iff]
    simp only [List.take_succ_cons, List.take_zero, beq_iff_eq, List.cons.injEq, and_true]
    constructor
    · rintro rfl; rfl
    · intro h
      have h2 : b.toNat = 45 := by omega
      exact UInt8.toNat_inj.1 (by rw [h2]; rfl)

def PzRel (w : World) (s : ByteArray) (m : Bool) (gk : Nat) (sl si : Value) (wr : World) : Prop :=
  ∃ k zs, k + gk = s.size ∧ si = .int .i64 (k : Int) ∧ Sl wr sl zs ∧ Nm zs ∧ V zs = rd (pre m s.data.toList k) ∧ zs.length ≤ 5 * k ∧ Below w.heap.size w wr

set_option maxRecDepth 100000 in
set_option maxHeartbeats 8000000 in
theorem rparse_any (s : ByteArray) (w : World) : Calls Try.prog 24 #[.string s] w fun e w' => OpPost w (parseS s) e w' := by
  have hB0 := (Below.refl w.heap.size w).alloc (Nat.le_refl _) (.cells #[.bool false, .slice none 0 0] 24)
  have ur := Bx.new w false none 0 0
  obtain ⟨r, hr⟩ : ∃ r, r = parseS s := ⟨_, rfl⟩
  rw [← hr]
  have HR : Hid (r = parseS s) := hr
  clear hr
  by_cases hsz : s.size ≤ 200
  · have hsz' : ¬ ((200 : Int) < (s.size : Int)) := by omega
    go_enter Try.func24, Try.ntmps24
    go_wp2_with fail
    generalize hw1 : w.alloc (.cells #[.bool false, .slice none 0 0] 24) = w1 at *
    clear hw1
    rotate_left
    · have hs0 : s.size = 0 := by omega
      have hs0' : ¬ ((0 : Int) < (s.size : Int)) := by omega
      have HSZ : Hid (s.size ≤ 200) := hsz
      go_loopg [5, 6] 0 (fun gk sl si wr => sl = .slice none 0 0 ∧ si = .int .i64 0 ∧ wr = w.alloc (.cells #[.bool false, .slice none 0 0] 24))
      case atStart => exact ⟨rfl, rfl, rfl⟩
      case round =>
        obtain ⟨rfl, rfl, rfl⟩ := hrel
        have HM : Hid (isM s.data.toList = false) := isM_none s (by omega)
        obtain ⟨zs, hzs⟩ : ∃ zs : List Int, zs = [] := ⟨_, rfl⟩
        have hlz : zs.length ≤ 1 := by rw [hzs]; simp
        have hn : Nm zs := by rw [hzs]; exact Nm_nil
        have HE : Hid (V zs = rd (offM s.data.toList)) := by
          show V zs = _
          rw [← pre_all, HM.out, ← Lib.size_eq, hs0, hzs]; rfl
        have HV : Hid True := trivial
        have hs : Sl (w.alloc (.cells #[.bool false, .slice none 0 0] 24)) (.slice none 0 0) zs := by rw [hzs]; exact Sl.nil _
        clear hzs
        generalize w.alloc (.cells #[.bool false, .slice none 0 0] 24) = wr at *
        have HVX : Hid (Z false (V zs) = parseX s) := by
          show Z false (V zs) = Z (isM s.data.toList) (rd (offM s.data.toList))
          rw [HE.out, HM.out]
        clear HE
        go_wp2_with fail
        refine (made_any false _ zs _ hs (by have := HSZ.out; omega)).mono ?_
        rw [HVX.out]
        cases hf : fitS (parseX s) with
        | none =>
          have HN : Hid (r = none) := by show r = none; rw [HR.out]; exact parse_wide hf
          rintro e w5 ⟨v5, rfl, i5, b5⟩
          obtain ⟨nn, pn, zn, cn, rfl, tn, gn, xn⟩ := i5.open
          have bd := (Below.refl w5.heap.size w5).alloc (Nat.le_refl _) (.cells #[.bool nn, .slice pn zn.length cn] 24)
          have b55 := b5.trans (bd.mono b5.size)
          replace ur := ur.under b55
          replace hB0 := hB0.trans (b55.mono hB0.size)
          clear hs hn hlz HV HVX hf i5 tn gn xn bd b5 b55
          obtain ⟨d0, d1, d2, d3, d4⟩ := ur.facts
          go_wp2_with fail
          refine bodyPost_ret (results_box2 rfl _ _ w.heap.size false (.slice none 0 0) rfl ur.set) rfl ?_
          rw [HN.out]
          exact ⟨_, rfl, IsN.zero _, hB0.trans ((setBx_but _ _ _ _).below (Nat.le_refl _))⟩
        | some z =>
          rintro e w5 ⟨v5, rfl, i5, b5⟩
          obtain ⟨nn, pn, zn, cn, rfl, tn, gn, xn⟩ := i5.open
          have bd := (Below.refl w5.heap.size w5).alloc (Nat.le_refl _) (.cells #[.bool nn, .slice pn zn.length cn] 24)
          have un := Bx.new w5 nn pn zn.length cn
          have iN := i5.below bd
          have b55 := b5.trans (bd.mono b5.size)
          have hgg := Nat.lt_of_lt_of_le ur.lt b5.size
          replace ur := ur.under b55
          replace hB0 := hB0.trans (b55.mono hB0.size)
          have HF : Hid (fitS (parseX s) = some z) := hf
          have HX : Hid (z = parseX s) := (fit_some hf).1
          clear hs hn hlz HV HVX hf i5 tn gn xn bd b5 b55
          obtain ⟨c0, c1, -⟩ := un.facts
          go_wp2_with fail
          generalize w5.alloc (.cells #[.bool nn, .slice pn zn.length cn] 24) = w6 at *
          generalize w5.heap.size = gn at *
          refine (rtext_any _ z _ iN.nx).mono ?_
          rintro e w7 ⟨rfl, b7⟩
          replace ur := ur.under b7
          replace un := un.under b7
          replace iN := iN.below b7
          replace hB0 := hB0.trans (b7.mono hB0.size)
          clear c0 c1 b7
          obtain ⟨T, hT⟩ : ∃ T, T = strOfNums (decL z) := ⟨_, rfl⟩
          rw [← hT]
          rw [HX.out] at hT
          obtain ⟨c0, c1, -⟩ := un.facts
          obtain ⟨d0, d1, d2, d3, d4⟩ := ur.facts
          by_cases ht : T = s
          · have htb : (T.toList == s.toList) = true := same_text.2 ht
            have HN : Hid (r = some z) := by
              show r = _
              rw [HR.out]
              exact parse_fits HSZ.out HF.out (hT.symm.trans ht)
            have HI : Hid (IsN w7 (.agg #[.bool nn, .slice pn zn.length cn]) z) := iN
            clear ht hT iN
            go_wp2_with fail
            refine bodyPost_ret (results_box2 rfl _ _ w.heap.size nn (.slice pn zn.length cn) rfl ur.set) rfl ?_
            rw [HN.out]
            exact ⟨_, rfl, HI.out.box ur (setBx_but _ _ _ _), hB0.trans ((setBx_but _ _ _ _).below (Nat.le_refl _))⟩
          · have htb : (T.toList == s.toList) = false := by
              cases h : (T.toList == s.toList)
              · rfl
              · exact absurd (same_text.1 h) ht
            have HN : Hid (r = none) := by
              show r = none
              rw [HR.out]
              exact parse_other (fun h => ht (hT.trans h))
            clear ht hT iN
            go_wp2_with fail
            refine bodyPost_ret (results_box2 rfl _ _ w.heap.size false (.slice none 0 0) rfl ur.set) rfl ?_
            rw [HN.out]
            exact ⟨_, rfl, IsN.zero _, hB0.trans ((setBx_but _ _ _ _).below (Nat.le_refl _))⟩
    · have HSZ : Hid (s.size ≤ 200) := hsz
      obtain ⟨m, hm⟩ : ∃ m, isM s.data.toList = m := ⟨_, rfl⟩
      have HM : Hid (isM s.data.toList = m) := hm
      rw [← isM_head s (by assumption), hm]
      clear hm
      go_loopg [5, 6] s.size (fun gk sl si wr => PzRel w1 s m gk sl si wr)
      case atStart => exact ⟨0, [], by omega, rfl, Sl.nil _, Nm_nil, by rw [pre_zero]; rfl, by simp, Below.refl _ _⟩
      case round =>
        obtain ⟨k, zs, hk, rfl, hs, hn, hv, hlz, hB⟩ := hrel
        have HE : Hid (k = s.size → V zs = rd (offM s.data.toList)) := fun e => by rw [hv, e, Lib.size_eq, ← HM.out, pre_all]
        have HV : Hid (V zs = rd (pre m s.data.toList k)) := hv
        clear hv
        replace ur := ur.under hB
        replace hB0 := hB0.trans (hB.mono hB0.size)
        cases gk with
        | zero =>
          obtain rfl : k = s.size := by omega
          have hkk : ¬ ((s.size : Int) < (s.size : Int)) := by omega
          replace HE : Hid (V zs = rd (offM s.data.toList)) := HE.out rfl
          have HVX : Hid (Z m (V zs) = parseX s) := by
            show Z m (V zs) = Z (isM s.data.toList) (rd (offM s.data.toList))
            rw [HE.out, HM.out]
          clear HE
          go_wp2_with fail
          refine (made_any m _ zs _ hs (by have := HSZ.out; omega)).mono ?_
          rw [HVX.out]
          cases hf : fitS (parseX s) with
          | none =>
            have HN : Hid (r = none) := by show r = none; rw [HR.out]; exact parse_wide hf
            rintro e w5 ⟨v5, rfl, i5, b5⟩
            obtain ⟨nn, pn, zn, cn, rfl, tn, gn, xn⟩ := i5.open
            have bd := (Below.refl w5.heap.size w5).alloc (Nat.le_refl _) (.cells #[.bool nn, .slice pn zn.length cn] 24)
            have b55 := b5.trans (bd.mono b5.size)
            replace ur := ur.under b55
            replace hB0 := hB0.trans (b55.mono hB0.size)
            clear hs hn hlz HV HVX hf i5 tn gn xn bd b5 b55
            obtain ⟨d0, d1, d2, d3, d4⟩ := ur.facts
            go_wp2_with fail
            refine bodyPost_ret (results_box2 rfl _ _ w.heap.size false (.slice none 0 0) rfl ur.set) rfl ?_
            rw [HN.out]
            exact ⟨_, rfl, IsN.zero _, hB0.trans ((setBx_but _ _ _ _).below (Nat.le_refl _))⟩
          | some z =>
            rintro e w5 ⟨v5, rfl, i5, b5⟩
            obtain ⟨nn, pn, zn, cn, rfl, tn, gn, xn⟩ := i5.open
            have bd := (Below.refl w5.heap.size w5).alloc (Nat.le_refl _) (.cells #[.bool nn, .slice pn zn.length cn] 24)
            have un := Bx.new w5 nn pn zn.length cn
            have iN := i5.below bd
            have b55 := b5.trans (bd.mono b5.size)
            have hgg := Nat.lt_of_lt_of_le ur.lt b5.size
            replace ur := ur.under b55
            replace hB0 := hB0.trans (b55.mono hB0.size)
            have HF : Hid (fitS (parseX s) = some z) := hf
            have HX : Hid (z = parseX s) := (fit_some hf).1
            clear hs hn hlz HV HVX hf i5 tn gn xn bd b5 b55
            obtain ⟨c0, c1, -⟩ := un.facts
            go_wp2_with fail
            generalize w5.alloc (.cells #[.bool nn, .slice pn zn.length cn] 24) = w6 at *
            generalize w5.heap.size = gn at *
            refine (rtext_any _ z _ iN.nx).mono ?_
            rintro e w7 ⟨rfl, b7⟩
            replace ur := ur.under b7
            replace un := un.under b7
            replace iN := iN.below b7
            replace hB0 := hB0.trans (b7.mono hB0.size)
            clear c0 c1 b7
            obtain ⟨T, hT⟩ : ∃ T, T = strOfNums (decL z) := ⟨_, rfl⟩
            rw [← hT]
            rw [HX.out] at hT
            obtain ⟨c0, c1, -⟩ := un.facts
            obtain ⟨d0, d1, d2, d3, d4⟩ := ur.facts
            by_cases ht : T = s
            · have htb : (T.toList == s.toList) = true := same_text.2 ht
              have HN : Hid (r = some z) := by
                show r = _
                rw [HR.out]
                exact parse_fits HSZ.out HF.out (hT.symm.trans ht)
              have HI : Hid (IsN w7 (.agg #[.bool nn, .slice pn zn.length cn]) z) := iN
              clear ht hT iN
              go_wp2_with fail
              refine bodyPost_ret (results_box2 rfl _ _ w.heap.size nn (.slice pn zn.length cn) rfl ur.set) rfl ?_
              rw [HN.out]
              exact ⟨_, rfl, HI.out.box ur (setBx_but _ _ _ _), hB0.trans ((setBx_but _ _ _ _).below (Nat.le_refl _))⟩
            · have htb : (T.toList == s.toList) = false := by
                cases h : (T.toList == s.toList)
                · rfl
                · exact absurd (same_text.1 h) ht
              have HN : Hid (r = none) := by
                show r = none
                rw [HR.out]
                exact parse_other (fun h => ht (hT.trans h))
              clear ht hT iN
              go_wp2_with fail
              refine bodyPost_ret (results_box2 rfl _ _ w.heap.size false (.slice none 0 0) rfl ur.set) rfl ?_
              rw [HN.out]
              exact ⟨_, rfl, IsN.zero _, hB0.trans ((setBx_but _ _ _ _).below (Nat.le_refl _))⟩
        | succ q =>
          have hkl : (k : Int) < (s.size : Int) := by omega
          have hkl2 : k < s.size := by omega
          have hget : s.data.toList[k]? = some s[k] := Lib.data_getElem? s k hkl2
          by_cases hsgn : k = 0 ∧ m = true
          · obtain ⟨rfl, rfl⟩ := hsgn
            have HF : Hid (V zs = rd (pre true s.data.toList (0 + 1))) := by
              show V zs = _
              rw [HV.out, pre_zero, pre_sign]
            go_wp2_with fail
            go_roundg q
            case measure => omega
            case rel => exact ⟨0 + 1, zs, by omega, by go_num, hs, hn, HF.out, by omega, hB⟩
          · have hcs : 0 < k ∨ m = false := by
              cases m
              · exact Or.inr rfl
              · exact Or.inl (Nat.pos_of_ne_zero fun e => hsgn ⟨e, rfl⟩)
            have HT : Hid (rd (pre m s.data.toList (k + 1)) = V zs * 10 + dgt s[k]) := by
              show _ = _
              rw [pre_more m _ k _ hget hcs, HV.out]
              exact rd_snoc _ _
            have HNN : Hid (((s[k].toNat : Nat) : Int) < 48 ∨ 57 < ((s[k].toNat : Nat) : Int) → r = none) := fun h => by
              rw [HR.out]
              refine parse_non hget ?_ h
              rw [HM.out]; exact hcs
            have hidx : ∀ wx, (Instr.index 9 (.string s) (.int .i64 (k : Int))).run Try.prog wx = .ok (.int .u8 ((s[k].toNat : Nat) : Int)) wx := fun wx => by
              rw [run_index_string _ _ _ _ _ Try.underlying9]
              simp [hkl2]
            have hcb0 : 0 ≤ ((s[k].toNat : Nat) : Int) ∧ ((s[k].toNat : Nat) : Int) < 256 := by
              have := s[k].toNat_lt; omega
            obtain ⟨d, hd⟩ : ∃ d, d = dgt s[k] := ⟨_, rfl⟩
            have hdb := dgt_bd s[k]
            have hwd : IntKind.u8.wrap (((s[k].toNat : Nat) : Int) - 48) = d := by rw [hd, IntKind.wrap_u8]; rfl
            have hd8 : d < 256 := by rw [hd]; unfold dgt; omega
            rw [← hd] at hdb HT
            have hw32 : IntKind.u32.wrap d = d := by rw [IntKind.wrap_u32]; omega
            generalize ((s[k].toNat : Nat) : Int) = cb at hidx hwd HNN hcb0
            have hcs2 : (k = 0 ∧ m = false) ∨ 0 < k := by
              rcases Nat.eq_zero_or_pos k with h | h
              · exact Or.inl ⟨h, hcs.resolve_left (by omega)⟩
              · exact Or.inr h
            have hidx0 : k = 0 → ∀ wx, (Instr.index 9 (.string s) (.int .i64 0)).run Try.prog wx = .ok (.int .u8 cb) wx := fun e => by subst e; exact hidx
            clear hget hd hsgn hcs
            have HREL : Hid (∀ (va : Value) (za : List Int) (wa : World), Sl wa va za → Nm za → V za = V zs * 10 + d → za.length ≤ zs.length + 5 → Below w1.heap.size w1 wa → PzRel w1 s m q va (.int .i64 ((k : Int) + 1)) wa) :=
              fun va za wa h1 h2 h3 h4 h5 => ⟨k + 1, za, by omega, by go_num, h1, h2, by rw [HT.out]; exact h3, by omega, h5⟩
            clear HT
            by_cases hbad : cb < 48 ∨ 57 < cb
            · have HN : Hid (r = none) := HNN.out hbad
              obtain ⟨d0, d1, d2, d3, d4⟩ := ur.facts
              rcases hcs2 with ⟨rfl, rfl⟩ | hk0 <;> rcases hbad with h1 | h1
              all_goals
                try (have h1' : ¬ cb < 48 := by omega)
                first | (replace hidx0 := hidx0 rfl) | clear hidx0
                go_wp2_with fail
                refine bodyPost_ret (results_box2 rfl _ _ w.heap.size false (.slice none 0 0) rfl ur.set) rfl ?_
                rw [HN.out]
                exact ⟨_, rfl, IsN.zero _, hB0.trans ((setBx_but _ _ _ _).below (Nat.le_refl _))⟩
            · have h1 : ¬ cb < 48 := fun h => hbad (Or.inl h)
              have h2 : ¬ 57 < cb := fun h => hbad (Or.inr h)
              clear hbad
              have hw8 : cb - 48 = d := by rw [← hwd, IntKind.wrap_u8]; omega
              clear hw8
              rcases hcs2 with ⟨rfl, rfl⟩ | hk0
              all_goals
                first | (replace hidx0 := hidx0 rfl) | clear hidx0
                go_wp2_with fail
                obtain ⟨wA, hwA, sA, tA, bA⟩ : ∃ x, x = (wr.alloc (.cells #[.int .u32 10] 53)).drew ∧ Sl x _ [10] ∧ Sl x u5 zs ∧ Below wr.heap.size wr x := ⟨_, rfl, lit_A wr, hs.below (bel_A _ _), bel_A _ _⟩
                obtain ⟨wB, hwB, sB, eB, tB, bB⟩ : ∃ x, x = ((wr.alloc (.cells #[.int .u32 10] 53)).alloc (.cells #[.int .u32 d] 53)).drew ∧ Sl x _ [10] ∧ Sl x _ [d] ∧ Sl x u5 zs ∧ Below wr.heap.size wr x := ⟨_, rfl, (lit_AD wr d hdb.1 hdb.2).1, (lit_AD wr d hdb.1 hdb.2).2, hs.below (bel_AD _ _ _), bel_AD _ _ _⟩
                obtain ⟨wD, hwD, sD, eD, tD, bD⟩ : ∃ x, x = ((wr.alloc (.cells #[.int .u32 d] 53)).alloc (.cells #[.int .u32 10] 53)).drew ∧ Sl x _ [10] ∧ Sl x _ [d] ∧ Sl x u5 zs ∧ Below wr.heap.size wr x := ⟨_, rfl, (lit_DA wr d hdb.1 hdb.2).1, (lit_DA wr d hdb.1 hdb.2).2, hs.below (bel_AD _ _ _), bel_AD _ _ _⟩
                have HA : Hid (wA = (wr.alloc (.cells #[.int .u32 10] 53)).drew) := hwA
                have HBB : Hid (wB = ((wr.alloc (.cells #[.int .u32 10] 53)).alloc (.cells #[.int .u32 d] 53)).drew) := hwB
                have HD : Hid (wD = ((wr.alloc (.cells #[.int .u32 d] 53)).alloc (.cells #[.int .u32 10] 53)).drew) := hwD
                clear hwA hwB hwD
                go_region_with (first
                    | (go_at_call 39; rw [← HD.out]; refine (rmul_any _ _ zs [10] wD tD sD (by omega) (by simp)).mono ?_; rintro e wm ⟨vm, zm, rfl, sm, mm, xm, lm, bm, -⟩; have XM : Hid (V zm = V zs * V [10]) := xm; clear xm; have hm : Below wr.heap.size wr wm := bD.trans (bm.mono bD.size); have sd := eD.below bm)
                    | (go_at_call 39; rw [← HBB.out]; refine (rmul_any _ _ zs [10] wB tB sB (by omega) (by simp)).mono ?_; rintro e wm ⟨vm, zm, rfl, sm, mm, xm, lm, bm, -⟩; have XM : Hid (V zm = V zs * V [10]) := xm; clear xm; have hm : Below wr.heap.size wr wm := bB.trans (bm.mono bB.size); have sd := eB.below bm)
                    | (go_at_call 39; rw [← HA.out]; refine (rmul_any _ _ zs [10] wA tA sA (by omega) (by simp)).mono ?_; rintro e wm ⟨vm, zm, rfl, sm, mm, xm, lm, bm, -⟩; have XM : Hid (V zm = V zs * V [10]) := xm; clear xm; have hm : Below wr.heap.size wr wm := bA.trans (bm.mono bA.size))
                    | (go_at_call 52; refine (radd_any _ _ zm [d] _ sm sd (by simp at lm; omega) (by simp)).mono ?_; rintro e wa ⟨va, za, rfl, sa, ma, xa, la, ba, na⟩; have XA : Hid (V za = V zm + V [d]) := xa; clear xa; have hA : Below wr.heap.size wr wa := hm.trans (ba.mono hm.size))
                    | (go_at_call 52; refine (radd_any _ _ zm [d] _ (sm.below ((Below.refl _ _).alloc (Nat.le_refl _) _)) (sl_lit wm d hdb.1 hdb.2) (by simp at lm; omega) (by simp)).mono ?_; rintro e wa ⟨va, za, rfl, sa, ma, xa, la, ba, na⟩; have XA : Hid (V za = V zm + V [d]) := xa; clear xa; have hA : Below wr.heap.size wr wa := (hm.alloc hm.size _).trans (ba.mono (hm.alloc hm.size _).size)))
                all_goals
                  have HF : Hid (V za = V zs * 10 + d) := by
                    show V za = _
                    rw [XA.out, XM.out]; simp [V]
                  have hlz2 : za.length ≤ zs.length + 5 := by simp at la lm; omega
                  have hBF := hB.trans (hA.mono hB.size)
                  clear hB hs la lm na
                  go_wp2_with fail
                  go_roundg q
                  case measure => omega
                  case rel => exact HREL.out _ za _ sa ma HF.out hlz2 hBF
  · have hsz' : (200 : Int) < (s.size : Int) := by omega
    have HN : Hid (r = none) := by show r = none; rw [HR.out]; exact if_neg (fun h => hsz h.1)
    obtain ⟨d0, d1, d2, d3, d4⟩ := ur.facts
    go_enter Try.func24, Try.ntmps24
    go_wp2_with fail
    refine bodyPost_ret (results_box2 rfl _ _ w.heap.size false (.slice none 0 0) rfl ur) rfl ?_
    rw [HN.out]
    exact ⟨_, rfl, IsN.zero _, hB0⟩
end Go.Proofs.Ytmhcgdigccaogaa
