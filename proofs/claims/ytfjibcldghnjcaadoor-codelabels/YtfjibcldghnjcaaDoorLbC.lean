
/-
  code.areThere: whether each label that an operand names has a place.
-/
import Derived.Test.YtfjibcldghnjcaaDoorZLbA
namespace Go.Proofs.YtfjibcldghnjcaaDoor
open Go.RowKit Go.Maps
set_option linter.unusedVariables false
set_option linter.unusedSimpArgs false

def wtO (O : List (List Ag)) : Nat := (O.map fun K => 1 + szK K).sum
theorem wtO_app (O : List (List Ag)) (K : List Ag) : wtO (O ++ [K]) = wtO O + (1 + szK K) := by simp [wtO]
theorem wtO_len (O : List (List Ag)) : O.length ≤ wtO O := by
  unfold wtO
  induction O with
  | nil => exact Nat.le_refl _
  | cons K O ih => simp only [List.map_cons, List.sum_cons, List.length_cons]; omega
theorem wtO_take (L : List In) (k : Nat) (h : k < L.length) : wtO ((L.take (k + 1)).map In.K) = wtO ((L.take k).map In.K) + (1 + szK L[k].K) := by
  rw [List.take_succ_eq_append_getElem h, List.map_append, List.map_cons, List.map_nil, wtO_app]
theorem wtO_le (L : List In) (k : Nat) : wtO ((L.take k).map In.K) ≤ wtO (L.map In.K) := by
  have : L.map In.K = (L.take k).map In.K ++ (L.drop k).map In.K := by rw [← List.map_append, List.take_append_drop]
  rw [this]
  unfold wtO
  rw [List.map_append, List.sum_append]
  omega
theorem WOwn.more {w : World} {base : Nat} {v x : Value} {S : List Value} (h : w.ownsRow base 25 1 v (S.length + 1) (S ++ [x])) : WOwn w base v (S ++ [x]) := by
  unfold WOwn
  rw [List.length_append]
  exact h
theorem GsQ.head {w : World} {P : Nat → Prop} {p : Option Addr} {n cap : Nat} {K : List Ag} (h : GsQ w P (.slice p n cap) K) (i : Nat) (hi : i < K.length) : ∃ a b off x, K.drop i = a :: K.drop (i + 1) ∧ p = some ⟨b, off, none⟩ ∧ P b ∧ b < w.heap.size ∧ At3 w b (off + i * 3) x.t x.n x.sl ∧ El.fit x ∧ IsGQ w P a x.v := by
  obtain ⟨b, off, x, h1⟩ := h.at i hi
  exact ⟨K[i], b, off, x, List.drop_eq_getElem_cons hi, h1⟩
theorem szK_cons (a : Ag) (K : List Ag) : szK (a :: K) = szT a + szK K := by simp [szK]
/-- What the look over all operands begins with. -/
theorem due_start (w : World) (P : List (Int × Nat)) (L : List In) : Due w P (thereS P L = true) (L.map In.K).flatten [] := by
  have e : (∀ x ∈ (L.map In.K).flatten, okF P x = true) ↔ thereS P L = true := by
    unfold thereS
    rw [List.all_eq_true]
    constructor
    · intro h i hi
      exact List.all_eq_true.2 (fun a ha => h a (List.mem_flatten.2 ⟨i.K, List.mem_map.2 ⟨i, hi, rfl⟩, ha⟩))
    · intro h x hx
      obtain ⟨K, hK, hx⟩ := List.mem_flatten.1 hx
      obtain ⟨i, hi, rfl⟩ := List.mem_map.1 hK
      exact List.all_eq_true.1 (h i hi) x hx
  exact ⟨e.1, e.2, fun ad h => by simp at h⟩

/-- What the look has in hand: the rows that wait (S, O), those gone into (B), what stands at the operands (I: those of the row in hand that are left). -/
structure Look (w wr : World) (base bb : Nat) (P : List (Int × Nat)) (G : Prop) (v : Value) (I : List Ag) (O : List (List Ag)) : Prop where
  mk ::
  row : ∃ S, WOwn wr base v S ∧ Stk w S O
  due : ∃ B, Due w P G (I ++ O.flatten) B ∧ Pts wr bb B ∧ ∀ ad ∈ B, PlainA w ad.block
  below : Below w.heap.size w wr
theorem Look.under {w wr W : World} {base bb : Nat} {P : List (Int × Nat)} {G : Prop} {v : Value} {I : List Ag} {O : List (List Ag)} (h : Look w wr base bb P G v I O) (hb : Below wr.heap.size wr W) : Look w W base bb P G v I O := by
  obtain ⟨⟨S, h1, h2⟩, ⟨B, h3, h4, h5⟩, h6⟩ := h
  exact ⟨⟨S, h1.below hb, h2⟩, ⟨B, h3, h4.under hb, h5⟩, h6.trans (hb.mono h6.size)⟩

set_option maxRecDepth 100000 in
set_option maxHeartbeats 4000000 in
theorem areThere_any (w : World) (pb : Nat) (P : List (Int × Nat)) (v : Value) (L : List In) (hP : Pm w pb P) (hI : IsP w v L) (hsz : wtO (L.map In.K) ≤ 1000000000) :
    Calls Tryd.prog 14 #[.map (some pb), v] w fun e w' => e = .returned (.bool (thereS P L)) ∧ Below w.heap.size w w' := by
  obtain ⟨i0, hi, hz0, hz1, hz2⟩ := info_parts Tryd.infoArgs
  obtain ⟨av, cap, rfl, hc1, hc2, hc3⟩ := hI.shape
  have HI : Hid (IsP w (.slice av L.length cap) L) := hI
  have HSZ : Hid (wtO (L.map In.K) ≤ 1000000000) := hsz
  obtain ⟨D, hown, hD, -⟩ := hP
  have HD : Hid (∀ n, Maps.has D (.int .i64 n) = hasP P n) := hD
  have HOWN : Hid (w.ownsMap Tryd.prog 3 (plainElem Tryd.prog 3) pb P.length D) := hown
  have HST : Hid (Due w P (thereS P L = true) (L.map In.K).flatten []) := due_start w P L
  obtain ⟨r, hr⟩ : ∃ r, r = thereS P L := ⟨_, rfl⟩
  rw [← hr]
  rw [← hr] at HST
  have hmm := @run_makeMap Tryd.prog
  clear hI hsz hD hown hr
  go_enter Tryd.func14, Tryd.ntmps14
  go_wp2_with fail
  go_loopg [5, 19] L.length (fun gk u5 s19 wr => ∃ (k : Nat) (S : List Value), k + gk = L.length ∧ s19 = .int .i64 (k : Int) ∧ Hid (WOwn wr w.heap.size u5 S) ∧ Hid (Stk w S ((L.take k).map In.K)) ∧ Hid (Below w.heap.size w wr))
  case atStart => exact ⟨0, [], by omega, rfl, World.ownsRow_nil _ _ _ _, ⟨rfl, fun i h => absurd h (by simp)⟩, Below.refl _ _⟩
  case round =>
    obtain ⟨k, S, hk, rfl, HW, HS, HB⟩ := hrel
    cases gk with
    | succ gko =>
      have hkl : (k : Int) < (L.length : Int) := by omega
      obtain ⟨b, off, p, m, c, rfl, hlt, ⟨c0, c1⟩, hg⟩ := (HI.out).at k (by omega)
      have HG : Hid (GsQ w (PlainA w) (.slice p m c) L[k].K) := hg
      have hlr : b < wr.heap.size := Nat.lt_of_lt_of_le hlt HB.out.size
      have d0 : wr.cell? ⟨b, off + k * 2, none⟩ = some (.int .i64 L[k].op) := by rw [HB.out.cell (p := ⟨b, off + k * 2, none⟩) hlt]; exact c0
      have d1 : wr.cell? ⟨b, off + k * 2 + 1, none⟩ = some (.slice p m c) := by rw [HB.out.cell (p := ⟨b, off + k * 2 + 1, none⟩) hlt]; exact c1
      obtain ⟨op, hop⟩ : ∃ op, op = L[k].op := ⟨_, rfl⟩
      rw [← hop] at d0
      have hSl : S.length ≤ 1000000000 := by
        have h1 := HS.out.1
        have h2 := wtO_len ((L.take k).map In.K)
        have h3 := wtO_le L k
        have h4 := HSZ.out
        omega
      have HB1 : Hid (Below wr.heap.size wr ((wr.alloc (.cells #[.int .i64 op, .slice p m c] 27)).alloc (.cells #[.slice p m c] 25))) := ((Below.refl _ _).alloc (Nat.le_refl _) _).alloc (by simp) _
      have HW1 : Hid (WOwn ((wr.alloc (.cells #[.int .i64 op, .slice p m c] 27)).alloc (.cells #[.slice p m c] 25)) w.heap.size u5 S) := HW.out.below HB1.out
      have HKB : Hid (k < L.length) := by show _ < _; omega
      clear hg c0 c1 hop HW
      go_wp2_with (first | (at_builtin; go_loud (refine wpList_append_own _ rfl _ _ 47 rfl w.heap.size 25 i0 (.slice none 0 0) 1 24 Tryd.underlying47 hi hz0 hz1 hz2 rfl (by decide) u5 S.length S rfl HW1.out ⟨wr.heap.size + 1, 0, none⟩ 1 1 [.slice p m c] rfl rfl (by have := cell_one_new (wr.alloc (.cells #[.int .i64 op, .slice p m c] 27)) (.slice p m c) 25; simpa using this) (by intro u hu; simp at hu; subst hu; rfl) (by unfold maxLen; omega) (by omega) (by have := HB.out.size; simp; omega) ?_; intro v5 w5 ho5 hg5 _; have HO5 : Hid (WOwn w5 w.heap.size v5 (S ++ [.slice p m c])) := WOwn.more ho5; have HB5 : Hid (Below w.heap.size w w5) := ((HB.out.trans (HB1.out.mono HB.out.size)).grown hg5 (by have := HB.out.size; simp; omega) (fun j hj => (World.ownsRow.lt HW1.out j hj).1)); clear ho5 hg5)) | fail)
      go_roundg gko
      case measure => omega
      case rel =>
        refine ⟨k + 1, S ++ [Value.slice p m c], by omega, by go_num, HO5.out, ?_, HB5.out⟩
        have := HS.out.push HG.out
        rw [List.take_succ_eq_append_getElem HKB.out, List.map_append]
        exact this
    | zero =>
      obtain rfl : k = L.length := by omega
      have hkl : ¬ ((L.length : Nat) : Int) < (L.length : Int) := by omega
      have HS2 : Hid (Stk w S (L.map In.K)) := by have := HS.out; rwa [List.take_length] at this
      clear HS hk
      go_wp2_with fail
      obtain ⟨bb, hbb⟩ : ∃ bb, bb = wr.heap.size := ⟨_, rfl⟩
      have HL0 : Hid (Look w (wr.alloc (.map #[] 0)) w.heap.size wr.heap.size P (r = true) u5 [] (L.map In.K)) :=
        ⟨⟨S, HW.out.below ((Below.refl _ _).alloc (Nat.le_refl _) _), HS2.out⟩, ⟨[], HST.out, Pts.made wr, fun ad h => by simp at h⟩, HB.out.alloc HB.out.size _⟩
      have HBB : Hid (w.heap.size ≤ bb) := by rw [hbb]; exact HB.out.size
      rw [← hbb] at HL0 ⊢
      clear HW HS2 HB HST hbb HI
      go_loopg [5] (wtO (L.map In.K)) (fun gk u5 wr => ∃ O, Hid (Look w wr w.heap.size bb P (r = true) u5 [] O) ∧ wtO O ≤ gk ∧ gk ≤ 1000000000)
      case atStart => exact ⟨_, HL0.out, Nat.le_refl _, HSZ.out⟩
      case round =>
        obtain ⟨O, HL, hwt, hgk⟩ := hrel
        clear HL0
        obtain ⟨S, hS, hSt⟩ := HL.out.row
        obtain ⟨n, hn⟩ : ∃ n, n = S.length := ⟨_, rfl⟩
        cases n with
        | zero =>
          obtain rfl : S = [] := List.eq_nil_of_length_eq_zero hn.symm
          obtain rfl : O = [] := List.eq_nil_of_length_eq_zero hSt.1.symm
          have hrt : r = true := by
            obtain ⟨B, h1, -⟩ := HL.out.due
            exact h1.to (fun x hx => by simp at hx)
          subst hrt
          obtain ⟨p5, c5, rfl, hp5, hp6⟩ := own_shape hS
          have h00 : ¬ (0 : Int) < ((([] : List Value).length : Nat) : Int) := by decide
          clear hS hSt hn
          go_wp2_with fail
          go_ret
          exact ⟨rfl, HL.out.below⟩
        | succ n =>
          obtain ⟨S', x, O', K, rfl, rfl, hS', hSt', hx⟩ := hSt.pop hn.symm
          obtain ⟨g, cw, rfl, hgb, hgl, hcw, hcm, cx, hW'⟩ := WOwn.lastCell hS
          obtain ⟨p, c, rfl, hpc, hcc, hpn⟩ := hx.gs.shape
          have HX : Hid (GsQ w (PlainA w) (.slice p K.length c) K) := hx
          have HL2 : Hid (Look w wr w.heap.size bb P (r = true) (.slice (some ⟨g, 0, none⟩) S'.length cw) K O') := by
            obtain ⟨-, ⟨B, h1, h2, h3⟩, h4⟩ := HL.out
            exact ⟨⟨S', hW', hSt'⟩, ⟨B, h1.mem (fun y => by simp [or_comm]), h2, h3⟩, h4⟩
          have HWT : Hid (wtO O' + (1 + szK K) ≤ gk) := by show _ ≤ _; rw [wtO_app] at hwt; exact hwt
          obtain ⟨q, hq⟩ : ∃ q, q = S'.length := ⟨_, rfl⟩
          rw [← hq] at HL2 cx hcw ⊢
          have hq0 : (0 : Int) < ((q + 1 : Nat) : Int) := by omega
          have hq1 : ((q + 1 : Nat) : Int) - 1 = (q : Int) := by omega
          have hqm : (q : Int) ≤ 9223372036854775806 := by unfold maxLen at hcm; omega
          have hqc : (q : Int) ≤ (cw : Int) := by omega
          have hqn : (q : Int) < ((q + 1 : Nat) : Int) := by omega
          obtain ⟨gko, rfl⟩ : ∃ g, gk = g + 1 := ⟨gk - 1, by have := HWT.out; omega⟩
          clear hS hSt hn hS' hSt' hx hW' HL hwt hq
          go_wp2_with fail
          go_loopg [5, 45] K.length (fun gki u5 s45 wr => ∃ (i : Nat) (O : List (List Ag)), i + gki = K.length ∧ s45 = .int .i64 (i : Int) ∧ Hid (Look w wr w.heap.size bb P (r = true) u5 (K.drop i) O) ∧ wtO O + szK (K.drop i) ≤ gko)
          case atStart => exact ⟨0, O', by omega, rfl, HL2.out, by have := HWT.out; simp; omega⟩
          case round =>
            obtain ⟨i, O, hki, rfl, HL3, hwt⟩ := hrel
            clear HL2 HWT cx
            cases gk with
            | zero =>
              obtain rfl : i = K.length := by omega
              have hil : ¬ ((K.length : Nat) : Int) < (K.length : Int) := by omega
              have HL4 : Hid (Look w wr w.heap.size bb P (r = true) u5 [] O) := by have := HL3.out; rwa [List.drop_length] at this
              have hwt2 : wtO O ≤ gko := by simp at hwt; omega
              clear HL3 hwt
              go_wp2_with fail
              go_roundg gko
              case measure => omega
              case rel => exact ⟨O, HL4.out, hwt2, by omega⟩
            | succ gki =>
              have hil : (i : Int) < (K.length : Int) := by omega
              obtain ⟨a, b, off, x, hkd, rfl, hpl, hlt, ⟨c0, c1, c2⟩, hf, hx⟩ := HX.out.head i (by omega)
              obtain ⟨e1, e2, e3, hxk⟩ := hx.el
              have HKI : Hid (i + (gki + 1) = K.length) := hki
              have HTR : Hid (TrAt w ⟨b, off + i * 3, none⟩ a) := ⟨b, off + i * 3, x, rfl, ⟨c0, c1, c2⟩, hx⟩
              have HKD : Hid (K.drop i = a :: K.drop (i + 1)) := hkd
              have HSK : Hid (szK (K.drop i) = szT a + szK (K.drop (i + 1))) := by show _ = _; rw [hkd, szK_cons]
              have HXK : Hid (GsQ w (PlainA w) x.sl a.kids) := hxk
              obtain ⟨xt, xn, xa, xm, xc⟩ := x
              unfold El.sl at HXK c2
              dsimp only at e1 e2 e3 HXK c0 c1 c2
              subst e1 e2 e3
              have hfb : -9223372036854775808 ≤ a.n ∧ a.n ≤ 9223372036854775807 := by obtain ⟨-, -, h1, h2, -⟩ := hf; exact ⟨h1, h2⟩
              have hfx : a.kids.length ≤ xc ∧ (xc : Int) ≤ 9223372036854775807 := by obtain ⟨-, -, -, -, h1, h2⟩ := hf; exact ⟨h1, h2⟩
              have HLO : Hid (Look w wr w.heap.size bb P (r = true) u5 (a :: K.drop (i + 1)) O) := by have := HL3.out; rwa [HKD.out] at this
              have hwt2 : wtO O + (szT a + szK (K.drop (i + 1))) ≤ gko := by have := HSK.out; omega
              have hlr : b < wr.heap.size := Nat.lt_of_lt_of_le hlt HL3.out.below.size
              have HCL : Hid (∀ W, Below w.heap.size w W → W.cell? ⟨b, off + i * 3, none⟩ = some (.int .i64 a.t) ∧ W.cell? ⟨b, off + i * 3 + 1, none⟩ = some (.int .i64 a.n) ∧ W.cell? ⟨b, off + i * 3 + 2, none⟩ = some (.slice xa a.kids.length xc)) := fun W hW =>
                ⟨by rw [hW.cell (p := ⟨b, off + i * 3, none⟩) hlt]; exact c0, by rw [hW.cell (p := ⟨b, off + i * 3 + 1, none⟩) hlt]; exact c1, by rw [hW.cell (p := ⟨b, off + i * 3 + 2, none⟩) hlt]; exact c2⟩
              obtain ⟨d0, d1, d2⟩ := HCL.out wr HL3.out.below
              have HPL : Hid (PlainA w b) := hpl
              have HOW : Hid (wr.ownsMap Tryd.prog 3 (plainElem Tryd.prog 3) pb P.length D) := by
                have hlt := HOWN.out.lt
                obtain ⟨es, clock, hh, hrest⟩ := HOWN.out
                exact ⟨es, clock, by rw [HL3.out.below.block pb hlt]; exact hh, hrest⟩
              have hkey : keyOf Tryd.prog 3 (.int .i64 a.n) = some (.int .i64 a.n) := keyOf_int_mk Tryd.underlying3 (by simp [Lit.wf, IntKind.min, IntKind.max, IntKind.signed, IntKind.bits]; omega)
              have hhas := HD.out a.n
              obtain ⟨B, hdu, hpts, hpB⟩ := HLO.out.due
              have HDU : Hid (Due w P (r = true) ((a :: K.drop (i + 1)) ++ O.flatten) B) := hdu
              have HPT : Hid (Pts wr bb B) := hpts
              have HPB : Hid (∀ ad ∈ B, PlainA w ad.block) := hpB
              have HPA : Hid (PlainA wr b) := hpl.same (HL3.out.below.block b hlt)
              obtain ⟨hq, hhq⟩ : ∃ hq, hq = hasP P a.n := ⟨_, rfl⟩
              rw [← hhq] at hhas
              obtain ⟨an, han⟩ : ∃ an, an = a.n := ⟨_, rfl⟩
              obtain ⟨at', hat⟩ : ∃ at', at' = a.t := ⟨_, rfl⟩
              have HBF : Hid (badF P a.t a.n = (at' == 5 && an != 0 && !hq)) := by rw [hat, han, hhq]; rfl
              obtain ⟨kl, hkl⟩ : ∃ kl, kl = a.kids.length := ⟨_, rfl⟩
              have HKL : Hid (kl = a.kids.length) := hkl
              obtain ⟨ai, hai⟩ : ∃ ai, ai = decide ((⟨b, off + i * 3, none⟩ : Addr) ∈ B) := ⟨_, rfl⟩
              have HAI : Hid (ai = decide ((⟨b, off + i * 3, none⟩ : Addr) ∈ B)) := hai
              rw [← han] at hkey hhas HCL d1
              rw [← hat] at HCL d0
              rw [← hkl] at HCL d2 hfx
              have hkl0 : (0 : Int) ≤ (kl : Int) := by omega
              clear hki hwt HL3 hpl hx hxk hf c0 c1 c2 hdu hpts hpB hkd hhq han hat hkl hai hfb HX HSK
              have HGB : Hid (gko ≤ 1000000000) := by show _ ≤ _; omega
              have HPTW : Hid (Pts wr bb B) := HPT.out
              have hltw : b < w.heap.size := hlt
              rcases (show at' ≠ 5 ∨ (at' = 5 ∧ an = 0) ∨ (at' = 5 ∧ an ≠ 0 ∧ hq = true) ∨ (at' = 5 ∧ an ≠ 0 ∧ hq = false) by by_cases h1 : at' = 5 <;> by_cases h2 : an = 0 <;> cases hq <;> simp [h1, h2]) with h5' | ⟨h5', hn0⟩ | ⟨h5', hn0, hq1⟩ | ⟨h5', hn0, hq1⟩
              · have h5 : (at' == 5) = false := beq_eq_false_iff_ne.2 h5'
                rcases (show ai = true ∨ ai = false by cases ai <;> simp) with hai | hai
                · subst hai
                  have HDN : Hid (Due w P (r = true) (K.drop (i + 1) ++ O.flatten) B) := by
                    have h1 := HDU.out
                    exact h1.again (by rw [HBF.out]; simp [h5]) (of_decide_eq_true HAI.out.symm) HTR.out
                  have HLN : Hid (Look w (wr.alloc (.cells #[] 50)) w.heap.size bb P (r = true) u5 (K.drop (i + 1)) O) := by
                    have h1 : Look w wr w.heap.size bb P (r = true) u5 (K.drop (i + 1)) O := ⟨HLO.out.row, ⟨B, HDN.out, HPT.out, HPB.out⟩, HLO.out.below⟩
                    exact h1.under ((Below.refl _ _).alloc (Nat.le_refl _) _)
                  have hw3 : wtO O + szK (K.drop (i + 1)) ≤ gko := by omega
                  clear HLO hwt2
                  go_wp2_with (first | (at_lookup; refine wpList_lookup_own_ok_int _ rfl _ _ 32 rfl 3 3 .i64 lawI Tryd.underlying32 Tryd.underlying3 (zeroI _) pb P.length D rfl HOW.out _ _ rfl hkey ?_; intro cc hcc hwc; rw [hhas]; clear hcc hwc) | (at_lookup; refine wpList_look_ptr rfl _ _ rfl bb B ⟨b, off + i * 3, none⟩ rfl rfl HPT.out HPA.out ?_; rw [← HAI.out]) | fail)
                  go_roundg gki
                  case measure => omega
                  case rel => exact ⟨i + 1, O, by have := HKI.out; omega, by go_num, HLN.out, hw3⟩
                · subst hai
                  cases kl with
                  | zero =>
                    have HDN : Hid (Due w P (r = true) (K.drop (i + 1) ++ O.flatten) B) := by
                      have h1 := HDU.out
                      exact h1.leaf (by rw [HBF.out]; simp [h5]) (List.eq_nil_of_length_eq_zero HKL.out.symm)
                    have HLN : Hid (Look w (wr.alloc (.cells #[] 50)) w.heap.size bb P (r = true) u5 (K.drop (i + 1)) O) := by
                      have h1 : Look w wr w.heap.size bb P (r = true) u5 (K.drop (i + 1)) O := ⟨HLO.out.row, ⟨B, HDN.out, HPT.out, HPB.out⟩, HLO.out.below⟩
                      exact h1.under ((Below.refl _ _).alloc (Nat.le_refl _) _)
                    have hw3 : wtO O + szK (K.drop (i + 1)) ≤ gko := by omega
                    have hk0 : ¬ (0 : Int) < ((0 : Nat) : Int) := by decide
                    clear HLO hwt2
                    go_wp2_with (first | (at_lookup; refine wpList_lookup_own_ok_int _ rfl _ _ 32 rfl 3 3 .i64 lawI Tryd.underlying32 Tryd.underlying3 (zeroI _) pb P.length D rfl HOW.out _ _ rfl hkey ?_; intro cc hcc hwc; rw [hhas]; clear hcc hwc) | (at_lookup; refine wpList_look_ptr rfl _ _ rfl bb B ⟨b, off + i * 3, none⟩ rfl rfl HPT.out HPA.out ?_; rw [← HAI.out]) | fail)
                    go_roundg gki
                    case measure => omega
                    case rel => exact ⟨i + 1, O, by have := HKI.out; omega, by go_num, HLN.out, hw3⟩
                  | succ km =>
                    have hk0 : (0 : Int) < ((km + 1 : Nat) : Int) := by omega
                    obtain ⟨S, hS, hSt⟩ := HLO.out.row
                    have HB0 : Hid (Below w.heap.size w wr) := HLO.out.below
                    have HBA : Hid (Below w.heap.size w (wr.alloc (.cells #[] 50))) := HB0.out.alloc HB0.out.size _
                    have HPT1 : Hid (Pts (wr.alloc (.cells #[] 50)) bb B) := HPT.out.under ((Below.refl _ _).alloc (Nat.le_refl _) _)
                    have HPA1 : Hid (PlainA (wr.alloc (.cells #[] 50)) b) := HPA.out.same (((Below.refl wr.heap.size wr).alloc (Nat.le_refl _) _).block b hlr)
                    have HWS : Hid (WOwn (wr.alloc (.cells #[] 50)) w.heap.size u5 S) := hS.below ((Below.refl _ _).alloc (Nat.le_refl _) _)
                    have HSS : Hid (Stk w S O) := hSt
                    have HNI : Hid ((⟨b, off + i * 3, none⟩ : Addr) ∉ B) := of_decide_eq_false HAI.out.symm
                    have hSl : S.length ≤ 1000000000 := by
                      have h1 := hSt.1
                      have h2 := wtO_len O
                      have h3 := HGB.out
                      have h4 := szT_eq a
                      omega
                    have HDN : Hid (Due w P (r = true) (K.drop (i + 1) ++ (O ++ [a.kids]).flatten) (B ++ [⟨b, off + i * 3, none⟩])) := by
                      have h1 := HDU.out
                      exact h1.into (by rw [HBF.out]; simp [h5]) HTR.out (fun y => by simp [or_assoc])
                    have hw3 : wtO (O ++ [a.kids]) + szK (K.drop (i + 1)) ≤ gko := by
                      rw [wtO_app]
                      have := szT_eq a
                      omega
                    have HMB : Hid (∀ w5, (wr.alloc (.cells #[] 50)).grownBy w5 (some bb) → Below w.heap.size w w5 ∧ WOwn w5 w.heap.size u5 S) := fun w5 h5 => by
                      refine ⟨HBA.out.grown h5 (by have := HB0.out.size; simp; omega) (fun j hj => by injection hj with hj; rw [← hj]; exact HBB.out), ?_⟩
                      obtain ⟨es, clock, hm, -⟩ := HPT1.out
                      exact World.ownsRow.kept HWS.out h5 (Or.inr (fun e => HWS.out.ne hm e))
                    clear HLO hwt2 hS hSt HPT
                    go_wp2_with (first | (at_lookup; refine wpList_lookup_own_ok_int _ rfl _ _ 32 rfl 3 3 .i64 lawI Tryd.underlying32 Tryd.underlying3 (zeroI _) pb P.length D rfl HOW.out _ _ rfl hkey ?_; intro cc hcc hwc; rw [hhas]; clear hcc hwc) | (at_lookup; refine wpList_look_ptr rfl _ _ rfl bb B ⟨b, off + i * 3, none⟩ rfl rfl HPTW.out HPA.out ?_; rw [← HAI.out]) | (at_mapUpdate; refine wpList_store_ptr rfl _ _ _ rfl bb B ⟨b, off + i * 3, none⟩ rfl rfl rfl HPT1.out HPA1.out HNI.out ?_; intro w5 hp5 hg5; obtain ⟨hb5, hw5⟩ := HMB.out w5 hg5; obtain ⟨z0, z1, z2⟩ := HCL.out w5 hb5; have hl5 : b < w5.heap.size := Nat.lt_of_lt_of_le hltw hb5.size; have HP5 : Hid (Pts w5 bb (B ++ [⟨b, off + i * 3, none⟩])) := hp5; have HB5 : Hid (Below w.heap.size w w5) := hb5; have HW5 : Hid (WOwn (w5.alloc (.cells #[.slice xa (km + 1) xc] 25)) w.heap.size u5 S) := hw5.below ((Below.refl _ _).alloc (Nat.le_refl _) _); clear hp5 hg5 hb5 hw5) | (at_builtin; refine wpList_append_own _ rfl _ _ 47 rfl w.heap.size 25 i0 (.slice none 0 0) 1 24 Tryd.underlying47 hi hz0 hz1 hz2 rfl (by decide) u5 S.length S rfl HW5.out ⟨w5.heap.size, 0, none⟩ 1 1 [.slice xa (km + 1) xc] rfl rfl (cell_one_new _ _ _) (by intro u hu; simp at hu; subst hu; rfl) (by unfold maxLen; omega) (by omega) (by have := HB5.out.size; simp; omega) ?_; intro v6 w6 ho6 hg6 _; have HW6 : Hid (WOwn w6 w.heap.size v6 (S ++ [.slice xa (km + 1) xc])) := WOwn.more ho6; have HB6 : Hid (Below w.heap.size w w6) := (HB5.out.alloc HB5.out.size _).grown hg6 (by have := HB5.out.size; simp; omega) (fun j hj => (World.ownsRow.lt HW5.out j hj).1); have HG6 : Hid ((w5.alloc (.cells #[.slice xa (km + 1) xc] 25)).grownBy w6 u5.ownBlock) := hg6; clear ho6 hg6) | fail)
                    go_roundg gki
                    case measure => omega
                    case rel =>
                      refine ⟨i + 1, O ++ [a.kids], by have := HKI.out; omega, by go_num, ⟨⟨S ++ [.slice xa (km + 1) xc], HW6.out, HSS.out.push (by have := HXK.out; rwa [← HKL.out] at this)⟩, ⟨_, HDN.out, ?_, ?_⟩, HB6.out⟩, hw3⟩
                      · have hpa : Pts (w5.alloc (.cells #[.slice xa (km + 1) xc] 25)) bb (B ++ [⟨b, off + i * 3, none⟩]) := HP5.out.under ((Below.refl _ _).alloc (Nat.le_refl _) _)
                        refine hpa.same ?_ (fun ad had => ?_)
                        · have hlb := hpa.lt
                          obtain ⟨es, clock, hm, -⟩ := hpa
                          exact HG6.out.block bb hlb (fun e => HW5.out.ne hm e.symm)
                        · have hpl : PlainA w ad.block := by
                            rcases List.mem_append.1 had with h | h
                            · exact HPB.out ad h
                            · simp at h; subst h; exact HPL.out
                          have e1 : w6.heap[ad.block]? = w.heap[ad.block]? := HB6.out.block _ hpl.lt
                          have e2 : (w5.alloc (.cells #[.slice xa (km + 1) xc] 25)).heap[ad.block]? = w.heap[ad.block]? := (HB5.out.alloc HB5.out.size _).block _ hpl.lt
                          rw [e1, e2]
                      · intro ad had
                        rcases List.mem_append.1 had with h | h
                        · exact HPB.out ad h
                        · simp at h; subst h; exact HPL.out
              · obtain rfl := h5'
                have h5 : ((5 : Int) == 5) = true := by decide
                obtain rfl := hn0
                have hn1 : ((0 : Int) != 0) = false := by decide
                rcases (show ai = true ∨ ai = false by cases ai <;> simp) with hai | hai
                · subst hai
                  have HDN : Hid (Due w P (r = true) (K.drop (i + 1) ++ O.flatten) B) := by
                    have h1 := HDU.out
                    exact h1.again (by rw [HBF.out]; simp) (of_decide_eq_true HAI.out.symm) HTR.out
                  have HLN : Hid (Look w (wr.alloc (.cells #[] 50)) w.heap.size bb P (r = true) u5 (K.drop (i + 1)) O) := by
                    have h1 : Look w wr w.heap.size bb P (r = true) u5 (K.drop (i + 1)) O := ⟨HLO.out.row, ⟨B, HDN.out, HPT.out, HPB.out⟩, HLO.out.below⟩
                    exact h1.under ((Below.refl _ _).alloc (Nat.le_refl _) _)
                  have hw3 : wtO O + szK (K.drop (i + 1)) ≤ gko := by omega
                  clear HLO hwt2
                  go_wp2_with (first | (at_lookup; refine wpList_lookup_own_ok_int _ rfl _ _ 32 rfl 3 3 .i64 lawI Tryd.underlying32 Tryd.underlying3 (zeroI _) pb P.length D rfl HOW.out _ _ rfl hkey ?_; intro cc hcc hwc; rw [hhas]; clear hcc hwc) | (at_lookup; refine wpList_look_ptr rfl _ _ rfl bb B ⟨b, off + i * 3, none⟩ rfl rfl HPT.out HPA.out ?_; rw [← HAI.out]) | fail)
                  go_roundg gki
                  case measure => omega
                  case rel => exact ⟨i + 1, O, by have := HKI.out; omega, by go_num, HLN.out, hw3⟩
                · subst hai
                  cases kl with
                  | zero =>
                    have HDN : Hid (Due w P (r = true) (K.drop (i + 1) ++ O.flatten) B) := by
                      have h1 := HDU.out
                      exact h1.leaf (by rw [HBF.out]; simp) (List.eq_nil_of_length_eq_zero HKL.out.symm)
                    have HLN : Hid (Look w (wr.alloc (.cells #[] 50)) w.heap.size bb P (r = true) u5 (K.drop (i + 1)) O) := by
                      have h1 : Look w wr w.heap.size bb P (r = true) u5 (K.drop (i + 1)) O := ⟨HLO.out.row, ⟨B, HDN.out, HPT.out, HPB.out⟩, HLO.out.below⟩
                      exact h1.under ((Below.refl _ _).alloc (Nat.le_refl _) _)
                    have hw3 : wtO O + szK (K.drop (i + 1)) ≤ gko := by omega
                    have hk0 : ¬ (0 : Int) < ((0 : Nat) : Int) := by decide
                    clear HLO hwt2
                    go_wp2_with (first | (at_lookup; refine wpList_lookup_own_ok_int _ rfl _ _ 32 rfl 3 3 .i64 lawI Tryd.underlying32 Tryd.underlying3 (zeroI _) pb P.length D rfl HOW.out _ _ rfl hkey ?_; intro cc hcc hwc; rw [hhas]; clear hcc hwc) | (at_lookup; refine wpList_look_ptr rfl _ _ rfl bb B ⟨b, off + i * 3, none⟩ rfl rfl HPT.out HPA.out ?_; rw [← HAI.out]) | fail)
                    go_roundg gki
                    case measure => omega
                    case rel => exact ⟨i + 1, O, by have := HKI.out; omega, by go_num, HLN.out, hw3⟩
                  | succ km =>
                    have hk0 : (0 : Int) < ((km + 1 : Nat) : Int) := by omega
                    obtain ⟨S, hS, hSt⟩ := HLO.out.row
                    have HB0 : Hid (Below w.heap.size w wr) := HLO.out.below
                    have HBA : Hid (Below w.heap.size w (wr.alloc (.cells #[] 50))) := HB0.out.alloc HB0.out.size _
                    have HPT1 : Hid (Pts (wr.alloc (.cells #[] 50)) bb B) := HPT.out.under ((Below.refl _ _).alloc (Nat.le_refl _) _)
                    have HPA1 : Hid (PlainA (wr.alloc (.cells #[] 50)) b) := HPA.out.same (((Below.refl wr.heap.size wr).alloc (Nat.le_refl _) _).block b hlr)
                    have HWS : Hid (WOwn (wr.alloc (.cells #[] 50)) w.heap.size u5 S) := hS.below ((Below.refl _ _).alloc (Nat.le_refl _) _)
                    have HSS : Hid (Stk w S O) := hSt
                    have HNI : Hid ((⟨b, off + i * 3, none⟩ : Addr) ∉ B) := of_decide_eq_false HAI.out.symm
                    have hSl : S.length ≤ 1000000000 := by
                      have h1 := hSt.1
                      have h2 := wtO_len O
                      have h3 := HGB.out
                      have h4 := szT_eq a
                      omega
                    have HDN : Hid (Due w P (r = true) (K.drop (i + 1) ++ (O ++ [a.kids]).flatten) (B ++ [⟨b, off + i * 3, none⟩])) := by
                      have h1 := HDU.out
                      exact h1.into (by rw [HBF.out]; simp) HTR.out (fun y => by simp [or_assoc])
                    have hw3 : wtO (O ++ [a.kids]) + szK (K.drop (i + 1)) ≤ gko := by
                      rw [wtO_app]
                      have := szT_eq a
                      omega
                    have HMB : Hid (∀ w5, (wr.alloc (.cells #[] 50)).grownBy w5 (some bb) → Below w.heap.size w w5 ∧ WOwn w5 w.heap.size u5 S) := fun w5 h5 => by
                      refine ⟨HBA.out.grown h5 (by have := HB0.out.size; simp; omega) (fun j hj => by injection hj with hj; rw [← hj]; exact HBB.out), ?_⟩
                      obtain ⟨es, clock, hm, -⟩ := HPT1.out
                      exact World.ownsRow.kept HWS.out h5 (Or.inr (fun e => HWS.out.ne hm e))
                    clear HLO hwt2 hS hSt HPT
                    go_wp2_with (first | (at_lookup; refine wpList_lookup_own_ok_int _ rfl _ _ 32 rfl 3 3 .i64 lawI Tryd.underlying32 Tryd.underlying3 (zeroI _) pb P.length D rfl HOW.out _ _ rfl hkey ?_; intro cc hcc hwc; rw [hhas]; clear hcc hwc) | (at_lookup; refine wpList_look_ptr rfl _ _ rfl bb B ⟨b, off + i * 3, none⟩ rfl rfl HPTW.out HPA.out ?_; rw [← HAI.out]) | (at_mapUpdate; refine wpList_store_ptr rfl _ _ _ rfl bb B ⟨b, off + i * 3, none⟩ rfl rfl rfl HPT1.out HPA1.out HNI.out ?_; intro w5 hp5 hg5; obtain ⟨hb5, hw5⟩ := HMB.out w5 hg5; obtain ⟨z0, z1, z2⟩ := HCL.out w5 hb5; have hl5 : b < w5.heap.size := Nat.lt_of_lt_of_le hltw hb5.size; have HP5 : Hid (Pts w5 bb (B ++ [⟨b, off + i * 3, none⟩])) := hp5; have HB5 : Hid (Below w.heap.size w w5) := hb5; have HW5 : Hid (WOwn (w5.alloc (.cells #[.slice xa (km + 1) xc] 25)) w.heap.size u5 S) := hw5.below ((Below.refl _ _).alloc (Nat.le_refl _) _); clear hp5 hg5 hb5 hw5) | (at_builtin; refine wpList_append_own _ rfl _ _ 47 rfl w.heap.size 25 i0 (.slice none 0 0) 1 24 Tryd.underlying47 hi hz0 hz1 hz2 rfl (by decide) u5 S.length S rfl HW5.out ⟨w5.heap.size, 0, none⟩ 1 1 [.slice xa (km + 1) xc] rfl rfl (cell_one_new _ _ _) (by intro u hu; simp at hu; subst hu; rfl) (by unfold maxLen; omega) (by omega) (by have := HB5.out.size; simp; omega) ?_; intro v6 w6 ho6 hg6 _; have HW6 : Hid (WOwn w6 w.heap.size v6 (S ++ [.slice xa (km + 1) xc])) := WOwn.more ho6; have HB6 : Hid (Below w.heap.size w w6) := (HB5.out.alloc HB5.out.size _).grown hg6 (by have := HB5.out.size; simp; omega) (fun j hj => (World.ownsRow.lt HW5.out j hj).1); have HG6 : Hid ((w5.alloc (.cells #[.slice xa (km + 1) xc] 25)).grownBy w6 u5.ownBlock) := hg6; clear ho6 hg6) | fail)
                    go_roundg gki
                    case measure => omega
                    case rel =>
                      refine ⟨i + 1, O ++ [a.kids], by have := HKI.out; omega, by go_num, ⟨⟨S ++ [.slice xa (km + 1) xc], HW6.out, HSS.out.push (by have := HXK.out; rwa [← HKL.out] at this)⟩, ⟨_, HDN.out, ?_, ?_⟩, HB6.out⟩, hw3⟩
                      · have hpa : Pts (w5.alloc (.cells #[.slice xa (km + 1) xc] 25)) bb (B ++ [⟨b, off + i * 3, none⟩]) := HP5.out.under ((Below.refl _ _).alloc (Nat.le_refl _) _)
                        refine hpa.same ?_ (fun ad had => ?_)
                        · have hlb := hpa.lt
                          obtain ⟨es, clock, hm, -⟩ := hpa
                          exact HG6.out.block bb hlb (fun e => HW5.out.ne hm e.symm)
                        · have hpl : PlainA w ad.block := by
                            rcases List.mem_append.1 had with h | h
                            · exact HPB.out ad h
                            · simp at h; subst h; exact HPL.out
                          have e1 : w6.heap[ad.block]? = w.heap[ad.block]? := HB6.out.block _ hpl.lt
                          have e2 : (w5.alloc (.cells #[.slice xa (km + 1) xc] 25)).heap[ad.block]? = w.heap[ad.block]? := (HB5.out.alloc HB5.out.size _).block _ hpl.lt
                          rw [e1, e2]
                      · intro ad had
                        rcases List.mem_append.1 had with h | h
                        · exact HPB.out ad h
                        · simp at h; subst h; exact HPL.out
              · obtain rfl := h5'
                have h5 : ((5 : Int) == 5) = true := by decide
                have hn1 : (an != 0) = true := by simp [hn0]
                subst hq1
                rcases (show ai = true ∨ ai = false by cases ai <;> simp) with hai | hai
                · subst hai
                  have HDN : Hid (Due w P (r = true) (K.drop (i + 1) ++ O.flatten) B) := by
                    have h1 := HDU.out
                    exact h1.again (by rw [HBF.out]; simp) (of_decide_eq_true HAI.out.symm) HTR.out
                  have HLN : Hid (Look w (wr.alloc (.cells #[] 50)) w.heap.size bb P (r = true) u5 (K.drop (i + 1)) O) := by
                    have h1 : Look w wr w.heap.size bb P (r = true) u5 (K.drop (i + 1)) O := ⟨HLO.out.row, ⟨B, HDN.out, HPT.out, HPB.out⟩, HLO.out.below⟩
                    exact h1.under ((Below.refl _ _).alloc (Nat.le_refl _) _)
                  have hw3 : wtO O + szK (K.drop (i + 1)) ≤ gko := by omega
                  clear HLO hwt2
                  go_wp2_with (first | (at_lookup; refine wpList_lookup_own_ok_int _ rfl _ _ 32 rfl 3 3 .i64 lawI Tryd.underlying32 Tryd.underlying3 (zeroI _) pb P.length D rfl HOW.out _ _ rfl hkey ?_; intro cc hcc hwc; rw [hhas]; clear hcc hwc) | (at_lookup; refine wpList_look_ptr rfl _ _ rfl bb B ⟨b, off + i * 3, none⟩ rfl rfl HPT.out HPA.out ?_; rw [← HAI.out]) | fail)
                  go_roundg gki
                  case measure => omega
                  case rel => exact ⟨i + 1, O, by have := HKI.out; omega, by go_num, HLN.out, hw3⟩
                · subst hai
                  cases kl with
                  | zero =>
                    have HDN : Hid (Due w P (r = true) (K.drop (i + 1) ++ O.flatten) B) := by
                      have h1 := HDU.out
                      exact h1.leaf (by rw [HBF.out]; simp) (List.eq_nil_of_length_eq_zero HKL.out.symm)
                    have HLN : Hid (Look w (wr.alloc (.cells #[] 50)) w.heap.size bb P (r = true) u5 (K.drop (i + 1)) O) := by
                      have h1 : Look w wr w.heap.size bb P (r = true) u5 (K.drop (i + 1)) O := ⟨HLO.out.row, ⟨B, HDN.out, HPT.out, HPB.out⟩, HLO.out.below⟩
                      exact h1.under ((Below.refl _ _).alloc (Nat.le_refl _) _)
                    have hw3 : wtO O + szK (K.drop (i + 1)) ≤ gko := by omega
                    have hk0 : ¬ (0 : Int) < ((0 : Nat) : Int) := by decide
                    clear HLO hwt2
                    go_wp2_with (first | (at_lookup; refine wpList_lookup_own_ok_int _ rfl _ _ 32 rfl 3 3 .i64 lawI Tryd.underlying32 Tryd.underlying3 (zeroI _) pb P.length D rfl HOW.out _ _ rfl hkey ?_; intro cc hcc hwc; rw [hhas]; clear hcc hwc) | (at_lookup; refine wpList_look_ptr rfl _ _ rfl bb B ⟨b, off + i * 3, none⟩ rfl rfl HPT.out HPA.out ?_; rw [← HAI.out]) | fail)
                    go_roundg gki
                    case measure => omega
                    case rel => exact ⟨i + 1, O, by have := HKI.out; omega, by go_num, HLN.out, hw3⟩
                  | succ km =>
                    have hk0 : (0 : Int) < ((km + 1 : Nat) : Int) := by omega
                    obtain ⟨S, hS, hSt⟩ := HLO.out.row
                    have HB0 : Hid (Below w.heap.size w wr) := HLO.out.below
                    have HBA : Hid (Below w.heap.size w (wr.alloc (.cells #[] 50))) := HB0.out.alloc HB0.out.size _
                    have HPT1 : Hid (Pts (wr.alloc (.cells #[] 50)) bb B) := HPT.out.under ((Below.refl _ _).alloc (Nat.le_refl _) _)
                    have HPA1 : Hid (PlainA (wr.alloc (.cells #[] 50)) b) := HPA.out.same (((Below.refl wr.heap.size wr).alloc (Nat.le_refl _) _).block b hlr)
                    have HWS : Hid (WOwn (wr.alloc (.cells #[] 50)) w.heap.size u5 S) := hS.below ((Below.refl _ _).alloc (Nat.le_refl _) _)
                    have HSS : Hid (Stk w S O) := hSt
                    have HNI : Hid ((⟨b, off + i * 3, none⟩ : Addr) ∉ B) := of_decide_eq_false HAI.out.symm
                    have hSl : S.length ≤ 1000000000 := by
                      have h1 := hSt.1
                      have h2 := wtO_len O
                      have h3 := HGB.out
                      have h4 := szT_eq a
                      omega
                    have HDN : Hid (Due w P (r = true) (K.drop (i + 1) ++ (O ++ [a.kids]).flatten) (B ++ [⟨b, off + i * 3, none⟩])) := by
                      have h1 := HDU.out
                      exact h1.into (by rw [HBF.out]; simp) HTR.out (fun y => by simp [or_assoc])
                    have hw3 : wtO (O ++ [a.kids]) + szK (K.drop (i + 1)) ≤ gko := by
                      rw [wtO_app]
                      have := szT_eq a
                      omega
                    have HMB : Hid (∀ w5, (wr.alloc (.cells #[] 50)).grownBy w5 (some bb) → Below w.heap.size w w5 ∧ WOwn w5 w.heap.size u5 S) := fun w5 h5 => by
                      refine ⟨HBA.out.grown h5 (by have := HB0.out.size; simp; omega) (fun j hj => by injection hj with hj; rw [← hj]; exact HBB.out), ?_⟩
                      obtain ⟨es, clock, hm, -⟩ := HPT1.out
                      exact World.ownsRow.kept HWS.out h5 (Or.inr (fun e => HWS.out.ne hm e))
                    clear HLO hwt2 hS hSt HPT
                    go_wp2_with (first | (at_lookup; refine wpList_lookup_own_ok_int _ rfl _ _ 32 rfl 3 3 .i64 lawI Tryd.underlying32 Tryd.underlying3 (zeroI _) pb P.length D rfl HOW.out _ _ rfl hkey ?_; intro cc hcc hwc; rw [hhas]; clear hcc hwc) | (at_lookup; refine wpList_look_ptr rfl _ _ rfl bb B ⟨b, off + i * 3, none⟩ rfl rfl HPTW.out HPA.out ?_; rw [← HAI.out]) | (at_mapUpdate; refine wpList_store_ptr rfl _ _ _ rfl bb B ⟨b, off + i * 3, none⟩ rfl rfl rfl HPT1.out HPA1.out HNI.out ?_; intro w5 hp5 hg5; obtain ⟨hb5, hw5⟩ := HMB.out w5 hg5; obtain ⟨z0, z1, z2⟩ := HCL.out w5 hb5; have hl5 : b < w5.heap.size := Nat.lt_of_lt_of_le hltw hb5.size; have HP5 : Hid (Pts w5 bb (B ++ [⟨b, off + i * 3, none⟩])) := hp5; have HB5 : Hid (Below w.heap.size w w5) := hb5; have HW5 : Hid (WOwn (w5.alloc (.cells #[.slice xa (km + 1) xc] 25)) w.heap.size u5 S) := hw5.below ((Below.refl _ _).alloc (Nat.le_refl _) _); clear hp5 hg5 hb5 hw5) | (at_builtin; refine wpList_append_own _ rfl _ _ 47 rfl w.heap.size 25 i0 (.slice none 0 0) 1 24 Tryd.underlying47 hi hz0 hz1 hz2 rfl (by decide) u5 S.length S rfl HW5.out ⟨w5.heap.size, 0, none⟩ 1 1 [.slice xa (km + 1) xc] rfl rfl (cell_one_new _ _ _) (by intro u hu; simp at hu; subst hu; rfl) (by unfold maxLen; omega) (by omega) (by have := HB5.out.size; simp; omega) ?_; intro v6 w6 ho6 hg6 _; have HW6 : Hid (WOwn w6 w.heap.size v6 (S ++ [.slice xa (km + 1) xc])) := WOwn.more ho6; have HB6 : Hid (Below w.heap.size w w6) := (HB5.out.alloc HB5.out.size _).grown hg6 (by have := HB5.out.size; simp; omega) (fun j hj => (World.ownsRow.lt HW5.out j hj).1); have HG6 : Hid ((w5.alloc (.cells #[.slice xa (km + 1) xc] 25)).grownBy w6 u5.ownBlock) := hg6; clear ho6 hg6) | fail)
                    go_roundg gki
                    case measure => omega
                    case rel =>
                      refine ⟨i + 1, O ++ [a.kids], by have := HKI.out; omega, by go_num, ⟨⟨S ++ [.slice xa (km + 1) xc], HW6.out, HSS.out.push (by have := HXK.out; rwa [← HKL.out] at this)⟩, ⟨_, HDN.out, ?_, ?_⟩, HB6.out⟩, hw3⟩
                      · have hpa : Pts (w5.alloc (.cells #[.slice xa (km + 1) xc] 25)) bb (B ++ [⟨b, off + i * 3, none⟩]) := HP5.out.under ((Below.refl _ _).alloc (Nat.le_refl _) _)
                        refine hpa.same ?_ (fun ad had => ?_)
                        · have hlb := hpa.lt
                          obtain ⟨es, clock, hm, -⟩ := hpa
                          exact HG6.out.block bb hlb (fun e => HW5.out.ne hm e.symm)
                        · have hpl : PlainA w ad.block := by
                            rcases List.mem_append.1 had with h | h
                            · exact HPB.out ad h
                            · simp at h; subst h; exact HPL.out
                          have e1 : w6.heap[ad.block]? = w.heap[ad.block]? := HB6.out.block _ hpl.lt
                          have e2 : (w5.alloc (.cells #[.slice xa (km + 1) xc] 25)).heap[ad.block]? = w.heap[ad.block]? := (HB5.out.alloc HB5.out.size _).block _ hpl.lt
                          rw [e1, e2]
                      · intro ad had
                        rcases List.mem_append.1 had with h | h
                        · exact HPB.out ad h
                        · simp at h; subst h; exact HPL.out
              · obtain rfl := h5'
                have h5 : ((5 : Int) == 5) = true := by decide
                have hn1 : (an != 0) = true := by simp [hn0]
                subst hq1
                have hrf : r = false := by
                  have h1 := HDU.out
                  have h2 := h1.bad (a := a) (by simp) (by rw [HBF.out]; simp [hn0])
                  cases r
                  · rfl
                  · exact absurd rfl h2
                subst hrf
                have HBE : Hid (Below w.heap.size w wr) := HLO.out.below
                clear HLO hwt2
                go_wp2_with (first | (at_lookup; refine wpList_lookup_own_ok_int _ rfl _ _ 32 rfl 3 3 .i64 lawI Tryd.underlying32 Tryd.underlying3 (zeroI _) pb P.length D rfl HOW.out _ _ rfl hkey ?_; intro cc hcc hwc; rw [hhas]; clear hcc hwc) | fail)
                go_ret
                exact ⟨rfl, HBE.out⟩
end Go.Proofs.YtfjibcldghnjcaaDoor
