import Derived.Test.YtfjibcldghnjcaaDoorZCdA
import Derived.Test.YtfjibcldghnjcaaDoorCpG
import Derived.Deep.Cut
import Derived.Deep.CutBlock

/-
  code: bytes appended that were made elsewhere; an operand in memory as its bytes; isEnd, IndexFunc, refused.
-/
namespace Go.Proofs.YtfjibcldghnjcaaDoor
open Go.RowKit
set_option linter.unusedVariables false
set_option linter.unusedSimpArgs false

theorem By.news {w : World} {ad : Addr} {m c : Nat} {l : List UInt8} (h : By w (.slice (some ad) m c) l) : ∀ j u, (bv l)[j]? = some u → w.cell? (ad.add j) = some u := by
  intro j u hu
  have hj : j < l.length := by
    have := (List.getElem?_eq_some_iff.1 hu).1
    rwa [bv_len] at this
  obtain ⟨b', off', he, -, hcell⟩ := h.at j hj
  injection he with he
  subst he
  have := hcell j hj
  rw [show (⟨b', off', none⟩ : Addr).add j = ⟨b', off' + j, none⟩ by unfold Addr.add; split <;> simp_all, this]
  simp [bv, hj] at hu
  simp [List.getD, hj, hu]
set_option maxRecDepth 100000 in
theorem wpList_append_by {w : World} {ops : Array Oper} {rest : List Oper} {o : Oper} {a : Act} {Q : Exit → Act → World → Prop} (hgd : o.guard = none) (s x : Operand)
    (ho : o.op = .call { callee := .builtin .append, args := #[s, x], argTypes := #[42, 42] }) (base : Nat) (v : Value) (l : List UInt8) (hs : a.eval s = v) (h : OB w base v l) (hl : l.length ≤ 1000000000) (hb : base ≤ w.heap.size)
    (vx : Value) (news : List UInt8) (hx : a.eval x = vx) (hy : By w vx news) (hm : news.length ≤ 1000000000)
    (hK : ∀ v' w', OB w' base v' (l ++ news) → (∀ B W, B ≤ w.heap.size → B ≤ base → Below B W w → Below B W w') → Keep w w' → wpList Tryd.prog ops Q rest (a.put o.dst v') w') : wpList Tryd.prog ops Q (o :: rest) a w := by
  obtain ⟨i, hi, hz0, hz1, hz2⟩ := info_parts Tryd.infoB
  obtain ⟨ax, cx, rfl, hc1, hc2, hc3⟩ := hy.shape
  cases ax with
  | none =>
    have hl0 : news.length = 0 := by have := hc3 rfl; omega
    obtain rfl : news = [] := List.eq_nil_of_length_eq_zero hl0
    have hc0 := hc3 rfl
    subst hc0
    rw [List.append_nil] at hK
    exact wpList_append_own_none hgd s x 42 ho base 5 i 1 Tryd.underlying42 hi v l.length (bv l) hs h hx (hK v w h (fun B W _ _ hB => hB) (Keep.refl w))
  | some ad =>
    refine wpList_append_own _ hgd s x 42 ho base 5 i (.int .u8 0) 1 1 Tryd.underlying42 hi hz0 hz1 hz2 rfl (by decide) v l.length (bv l) hs h ad news.length cx (bv news) hx (by rw [bv_len, Nat.mul_one]) hy.news (bv_one _) (by unfold maxLen; omega) (by omega) hb ?_
    intro v' w' h1 h2 _
    exact hK v' w' (OB.more h1 rfl) (fun B W h4 h5 h6 => OB.belowG h h6 h2 h4 h5) (Keep.row h h2)
theorem BxI.keep {w w' : World} {g : Nat} {op : Int} {sl : Value} (h : BxI w g op sl) (k : Keep w w') : BxI w' g op sl := k.2 g _ h (fun cs e => by injection e with _ e2 _; exact absurd e2 (by decide))
theorem ub8_val {z : Int} (h0 : 0 ≤ z) (h1 : z ≤ 255) : ((ub8 z).toNat : Int) = z := by rw [u8i]; omega
/-- One byte in new memory. -/
theorem By.lit (w : World) (z : Int) (h0 : 0 ≤ z) (h1 : z ≤ 255) : By (w.alloc (.cells #[.int .u8 z] 5)) (.slice (some ⟨w.heap.size, 0, none⟩) 1 1) [ub8 z] := by
  refine ⟨some ⟨w.heap.size, 0, none⟩, 1, rfl, Nat.le_refl _, by decide, fun e => (by cases e), fun _ => ⟨w.heap.size, 0, rfl, by simp, fun i hi => ?_⟩⟩
  have : i = 0 := by simpa using hi
  subst this
  rw [World.cell?_alloc_mark]
  simp [ub8_val h0 h1]

/-- An operand in memory as a tree, as its bytes. -/
theorem all_at {α β : Type} (f : α → Bool) (g : β → Bool) : ∀ (A : List α) (B : List β), A.length = B.length → (∀ i (h : i < A.length) (h' : i < B.length), f A[i] = g B[i]) → A.all f = B.all g
  | [], [], _, _ => rfl
  | a :: A, b :: B, hl, h => by
    rw [List.all_cons, List.all_cons, all_at f g A B (by simpa using hl) (fun i h1 h2 => h (i + 1) (by simpa using h1) (by simpa using h2))]
    have := h 0 (by simp) (by simp)
    simp only [List.getElem_cons_zero] at this
    rw [this]
theorem put_tree {w : World} {a : Ag} {x : El} (h : IsG w a x.v) : ∃ L, Rw3 w x.sl L ∧ x.m = L.length ∧ x.putS L = a.putT ∧ x.fit := by
  obtain ⟨t, n, K⟩ := a
  obtain ⟨e1, e2, e3, -⟩ := h.el
  obtain ⟨p, cap, L, he, hf, hl, hr, hk⟩ := (isG_mk ..).1 h
  obtain ⟨xt, xn, xa, xm, xc⟩ := x
  unfold El.v agV El.sl at he
  simp only [Value.agg.injEq, List.toArray_inj, List.cons.injEq, Value.int.injEq, Value.slice.injEq, and_true, true_and] at he
  obtain ⟨rfl, rfl, rfl, rfl, rfl⟩ := he
  refine ⟨L, hr, by dsimp only; omega, ?_, hf⟩
  have hat : ∀ i (h : i < L.length) (h' : i < K.length), L[i].t = K[i].t ∧ L[i].n = K[i].n ∧ L[i].m = K[i].kids.length := fun i a b => by
    obtain ⟨f1, f2, f3, -⟩ := (hk i b a).el
    exact ⟨f1, f2, f3⟩
  have hall : L.all El.ok1 = K.all Ag.sgS := all_at _ _ L K hl (fun i a b => by
    obtain ⟨f1, f2, f3⟩ := hat i a b
    unfold El.ok1 Ag.sgS
    rw [f1, f2, f3])
  have hbt : elsB L = sglsB (K.map fun k => (k.t, k.n)) := by
    unfold elsB sglsB
    congr 1
    rw [List.map_map]
    refine List.ext_getElem (by simp [hl]) (fun i a b => ?_)
    obtain ⟨f1, f2, f3⟩ := hat i (by simpa using a) (by simpa using b)
    simp only [List.getElem_map, Function.comp_apply, f1, f2]
  unfold El.putS Ag.putT El.ok Ag.okT
  dsimp only
  rw [hall, hl]
  have hk1 : El.ok1 ⟨t, n, p, K.length, cap⟩ = Ag.sgS ⟨t, n, K⟩ := rfl
  rw [hk1]
  have hpp : El.put ⟨t, n, p, K.length, cap⟩ L = (Ag.arS ⟨t, n, K⟩).put := by
    unfold El.put
    rw [Ar.put_eq, hbt, hl]
    unfold Ag.arS
    simp
  rw [hpp]

set_option maxRecDepth 100000 in
set_option maxHeartbeats 2000000 in
theorem isEnd_any (op : Int) (sl : Value) (w : World) : Calls Tryd.prog 22 #[.agg #[.int .i64 op, sl]] w (RBool (decide (op = 3)) w) := by
  have HB : Hid (Below w.heap.size w (w.alloc (.cells #[.int .i64 op, sl] 27))) := box_below _ _ _
  by_cases h : op = 3
  · subst h
    go_enter Tryd.func22, Tryd.ntmps22
    go_wp2_with fail
    go_ret
    exact ⟨rfl, HB.out⟩
  · have hb : (op == 3) = false := by simp [h]
    rw [show decide (op = 3) = false from decide_eq_false h]
    go_enter Tryd.func22, Tryd.ntmps22
    go_wp2_with fail
    go_ret
    exact ⟨rfl, HB.out⟩
/-- Where the first end stands. -/
def endIx (L : List In) : Int := if L.findIdx (fun i => decide (i.op = 3)) < L.length then (L.findIdx (fun i => decide (i.op = 3)) : Int) else -1

set_option maxRecDepth 100000 in
set_option maxHeartbeats 2000000 in
theorem index_any (v : Value) (L : List In) (w : World) (h : Is w v L) : Calls Tryd.prog 21 #[v, .func (.func 22) #[] #[]] w fun e w' => e = .returned (.int .i64 (endIx L)) ∧ Below w.heap.size w w' := by
  obtain ⟨av, cap, rfl, hc1, hc2, hc3⟩ := h.shape
  have HI : Hid (Is w (.slice av L.length cap) L) := h
  obtain ⟨r, hr⟩ : ∃ r, endIx L = r := ⟨_, rfl⟩
  have HR : Hid (endIx L = r) := hr
  rw [hr]
  clear h hr
  go_enter Tryd.func21, Tryd.ntmps21
  go_wp2_with fail
  go_loopg [8] L.length (fun gk s8 wr => ∃ k : Nat, k + gk = L.length ∧ s8 = .int .i64 (k : Int) ∧ Hid (Below w.heap.size w wr) ∧ Hid (∀ j (h : j < L.length), j < k → L[j].op ≠ 3))
  case atStart => exact ⟨0, by omega, rfl, Below.refl _ _, fun j h hj => absurd hj (by omega)⟩
  case round =>
    obtain ⟨k, hk, rfl, HB, HA⟩ := hrel
    cases gk with
    | zero =>
      obtain rfl : k = L.length := by omega
      have HE : Hid (r = -1) := by
        unfold Hid
        rw [← HR.out]
        unfold endIx
        rw [if_neg]
        rw [List.findIdx_lt_length]
        rintro ⟨x, hx, h3⟩
        obtain ⟨j, hj, rfl⟩ := List.getElem_of_mem hx
        exact HA.out j hj hj (by simpa using h3)
      clear HA HR
      go_wp2_with fail
      go_ret
      exact ⟨by rw [HE.out]; rfl, HB.out⟩
    | succ g =>
      have hkl : k < L.length := by omega
      have hki : (k : Int) < (L.length : Int) := by omega
      have hkc : (k : Int) < (cap : Int) := by omega
      obtain ⟨b, off, p, m, c, rfl, hlt, ⟨a0, a1⟩, -⟩ := (HI.out.under HB.out).at k hkl
      obtain ⟨op, hop⟩ : ∃ op, L[k].op = op := ⟨_, rfl⟩
      have HOP : Hid (L[k].op = op) := hop
      rw [hop] at a0
      clear hop
      go_wp2_with fail
      refine (isEnd_any op _ _).mono ?_
      rintro e w2 ⟨rfl, b2⟩
      have HB2 : Hid (Below w.heap.size w w2) := HB.out.trans (b2.mono HB.out.size)
      clear b2 a0 a1
      by_cases h3 : op = 3
      · subst h3
        have HE : Hid (r = (k : Int)) := by
          unfold Hid
          rw [← HR.out]
          have hf : L.findIdx (fun i => decide (i.op = 3)) = k := by
            rw [List.findIdx_eq hkl]
            refine ⟨by simpa using HOP.out, fun j hj => by simpa using HA.out j (by omega) hj⟩
          unfold endIx
          rw [hf, if_pos hkl]
        clear HA HR
        go_wp2_with fail
        go_ret
        exact ⟨by rw [HE.out]; rfl, HB2.out⟩
      · rw [show decide (op = 3) = false from decide_eq_false h3]
        have HA2 : Hid (∀ j (h : j < L.length), j < k + 1 → L[j].op ≠ 3) := by
          intro j hj hjk
          rcases Nat.lt_or_ge j k with h | h
          · exact HA.out j hj h
          · obtain rfl : j = k := by omega
            rw [HOP.out]; exact h3
        clear HA
        go_wp2_with fail
        go_roundg g
        case measure => omega
        case rel => exact ⟨k + 1, by omega, by go_num, HB2, HA2⟩

set_option maxRecDepth 100000 in
set_option maxHeartbeats 4000000 in
theorem refused_any (v : Value) (L : List In) (w : World) (h : Is w v L) : Calls Tryd.prog 17 #[v] w fun e w' => e = .returned (.int .i64 (refS L)) ∧ Below w.heap.size w w' := by
  obtain ⟨av, cap, rfl, hc1, hc2, hc3⟩ := h.shape
  have HI : Hid (Is w (.slice av L.length cap) L) := h
  obtain ⟨r, hr⟩ : ∃ r, refS L = r := ⟨_, rfl⟩
  have HR : Hid (refS L = r) := hr
  rw [hr]
  clear h hr
  by_cases h4 : (400 : Int) < (L.length : Int)
  · have HE : Hid (r = 2) := by unfold Hid; rw [← HR.out]; unfold refS; rw [if_pos (by omega)]
    clear HR
    go_enter Tryd.func17, Tryd.ntmps17
    go_wp2_with fail
    go_ret
    exact ⟨by rw [HE.out]; rfl, Below.refl _ _⟩
  have HR2 : Hid (r = if L.all In.fits = false then 10 else if endsS L = true then 0 else 9) := by unfold Hid; rw [← HR.out]; unfold refS; rw [if_neg (by omega)]
  have hl4 : L.length ≤ 400 := by omega
  clear HR
  go_enter Tryd.func17, Tryd.ntmps17
  go_wp2_with fail
  go_loopg [11] L.length (fun gk s11 wr => ∃ k : Nat, k + gk = L.length ∧ s11 = .int .i64 (k : Int) ∧ Hid (Below w.heap.size w wr) ∧ Hid (∀ j (h : j < L.length), j < k → L[j].fits = true))
  case atStart => exact ⟨0, by omega, rfl, Below.refl _ _, fun j h hj => absurd hj (by omega)⟩
  case round =>
    obtain ⟨k, hk, rfl, HB, HA⟩ := hrel
    cases gk with
    | zero =>
      obtain rfl : k = L.length := by omega
      have HR3 : Hid (r = if endsS L = true then 0 else 9) := by
        unfold Hid
        rw [HR2.out, if_neg]
        rw [Bool.not_eq_false, List.all_eq_true]
        intro x hx
        obtain ⟨j, hj, rfl⟩ := List.getElem_of_mem hx
        exact HA.out j hj hj
      clear HA HR2
      by_cases h0 : L.length = 0
      · have HE : Hid (r = 9) := by
          unfold Hid
          rw [HR3.out, if_neg]
          unfold endsS
          simp [h0]
        have hli : (L.length : Int) - 1 < 0 := by omega
        clear HR3
        go_wp2_with fail
        go_ret
        exact ⟨by rw [HE.out]; rfl, HB.out⟩
      · have hli : ¬ (L.length : Int) - 1 < 0 := by omega
        have HIX := index_any _ L wr (HI.out.under HB.out)
        have hfl : L.findIdx (fun i => decide (i.op = 3)) ≤ L.length := List.findIdx_le_length
        by_cases he : endsS L = true
        · have HE : Hid (r = 0) := by unfold Hid; rw [HR3.out, if_pos he]
          unfold endsS at he
          rw [decide_eq_true_eq] at he
          have hix : endIx L = (L.length : Int) - 1 := by unfold endIx; rw [if_pos (by omega)]; omega
          rw [hix] at HIX
          have HIX2 : Hid (Calls Tryd.prog 21 #[.slice av L.length cap, .func (.func 22) #[] #[]] wr fun e w' => e = .returned (.int .i64 ((L.length : Int) - 1)) ∧ Below wr.heap.size wr w') := HIX
          clear HR3 HIX hix he hfl
          go_wp2_with fail
          refine HIX2.out.mono ?_
          rintro e w2 ⟨rfl, b2⟩
          have HB2 : Hid (Below w.heap.size w w2) := HB.out.trans (b2.mono HB.out.size)
          clear b2
          go_wp2_with fail
          go_ret
          exact ⟨by rw [HE.out]; rfl, HB2.out⟩
        · have HE : Hid (r = 9) := by unfold Hid; rw [HR3.out, if_neg he]
          unfold endsS at he
          rw [decide_eq_true_eq] at he
          obtain ⟨z, hz⟩ : ∃ z, endIx L = z := ⟨_, rfl⟩
          have hzn : (z != (L.length : Int) - 1) = true := by
            rw [← hz]
            unfold endIx
            split
            · simp; omega
            · simp; omega
          rw [hz] at HIX
          have HIX2 : Hid (Calls Tryd.prog 21 #[.slice av L.length cap, .func (.func 22) #[] #[]] wr fun e w' => e = .returned (.int .i64 z) ∧ Below wr.heap.size wr w') := HIX
          clear HR3 HIX hz he hfl
          go_wp2_with fail
          refine HIX2.out.mono ?_
          rintro e w2 ⟨rfl, b2⟩
          have HB2 : Hid (Below w.heap.size w w2) := HB.out.trans (b2.mono HB.out.size)
          clear b2
          go_wp2_with fail
          go_ret
          exact ⟨by rw [HE.out]; rfl, HB2.out⟩
    | succ g =>
      have hkl : k < L.length := by omega
      have hki : (k : Int) < (L.length : Int) := by omega
      have hkc : (k : Int) < (cap : Int) := by omega
      obtain ⟨b, off, p, m, c, rfl, hlt, ⟨a0, a1⟩, hg⟩ := (HI.out.under HB.out).at k hkl
      obtain ⟨I, hIk⟩ : ∃ I, L[k] = I := ⟨_, rfl⟩
      have HIK : Hid (L[k] = I) := hIk
      rw [hIk] at a0 hg
      clear hIk
      obtain ⟨op, K⟩ := I
      dsimp only at a0 hg
      obtain ⟨q, hq⟩ : ∃ q, fitsI op K = q := ⟨_, rfl⟩
      have ba := box_below wr #[.int .i64 op, .slice p m c] 27
      have HFT : Hid (Calls Tryd.prog 20 #[.agg #[.int .i64 op, .slice p m c]] (wr.alloc (.cells #[.int .i64 op, .slice p m c] 27)) (RBool q (wr.alloc (.cells #[.int .i64 op, .slice p m c] 27)))) := by
        have := Fits_any op K _ _ (hg.under ba)
        rw [hq] at this; exact this
      have HQ : Hid (fitsI op K = q) := hq
      have HB1 : Hid (Below w.heap.size w (wr.alloc (.cells #[.int .i64 op, .slice p m c] 27))) := HB.out.trans (ba.mono HB.out.size)
      clear hq hg ba
      go_wp2_with fail
      refine HFT.out.mono ?_
      rintro e w2 ⟨rfl, b2⟩
      have HB2 : Hid (Below w.heap.size w w2) := HB1.out.trans (b2.mono HB1.out.size)
      clear b2 a0 a1 HFT HB1
      cases q
      · have HE : Hid (r = 10) := by
          unfold Hid
          rw [HR2.out, if_pos]
          rw [List.all_eq_false]
          exact ⟨L[k], List.getElem_mem hkl, by rw [HIK.out]; unfold In.fits; dsimp only; rw [HQ.out]; decide⟩
        clear HR2 HA HQ HIK
        go_wp2_with fail
        go_ret
        exact ⟨by rw [HE.out]; rfl, HB2.out⟩
      · have HA2 : Hid (∀ j (h : j < L.length), j < k + 1 → L[j].fits = true) := by
          intro j hj hjk
          rcases Nat.lt_or_ge j k with h | h
          · exact HA.out j hj h
          · obtain rfl : j = k := by omega
            rw [HIK.out]; exact HQ.out
        clear HA HQ HIK
        go_wp2_with fail
        go_roundg g
        case measure => omega
        case rel => exact ⟨k + 1, by omega, by go_num, HB2, HA2⟩
end Go.Proofs.YtfjibcldghnjcaaDoor


/-
  code: Put.
-/
namespace Go.Proofs.YtfjibcldghnjcaaDoor
open Go.RowKit
set_option linter.unusedVariables false
set_option linter.unusedSimpArgs false

theorem codeB_take (L : List In) (k : Nat) (hk : k < L.length) : codeB (L.take (k + 1)) = codeB (L.take k) ++ (ub8 L[k].op :: argsB L[k].K) := by
  rw [List.take_succ_eq_append_getElem hk, codeB_app]
  unfold codeB In.bytes
  simp
theorem argsB_take (K : List Ag) (k : Nat) (hk : k < K.length) : argsB (K.take (k + 1)) = argsB (K.take k) ++ K[k].putT := by
  rw [List.take_succ_eq_append_getElem hk, argsB_app]
  unfold argsB
  simp
theorem codeB_le (L : List In) (k : Nat) : (codeB (L.take k)).length ≤ (codeB L).length := by
  have : codeB L = codeB (L.take k) ++ codeB (L.drop k) := by rw [← codeB_app, List.take_append_drop]
  rw [this, List.length_append]; omega
theorem argsB_le (K : List Ag) (k : Nat) : (argsB (K.take k)).length ≤ (argsB K).length := by
  have : argsB K = argsB (K.take k) ++ argsB (K.drop k) := by rw [← argsB_app, List.take_append_drop]
  rw [this, List.length_append]; omega
/-- What Put answers. -/
def CPostR (w : World) (r : Int) (B : List UInt8) (e : Ending) (w' : World) : Prop :=
  ∃ v, e = .returned (.tuple #[v, .int .i64 r]) ∧ By w' v (if r = 0 then B else []) ∧ Below w.heap.size w w'
def CPost (w : World) (L : List In) (e : Ending) (w' : World) : Prop := CPostR w (refS L) (codeB L) e w'
theorem ref_fits {L : List In} (h : refS L = 0) : (∀ i ∈ L, In.fits i = true) ∧ endsS L = true ∧ L.length ≤ 400 := by
  unfold refS at h
  split at h
  · cases h
  · split at h
    · cases h
    · rename_i h1 h2
      split at h
      · rename_i h3
        exact ⟨fun i hi => List.all_eq_true.1 (Bool.not_eq_false _ ▸ h2) i hi, h3, by omega⟩
      · cases h
theorem fits_op {i : In} (h : i.fits = true) : 1 ≤ i.op ∧ i.op ≤ 51 := by
  unfold In.fits fitsI at h
  simp only [Bool.and_eq_true, decide_eq_true_eq] at h
  exact h.1.1

set_option maxRecDepth 100000 in
set_option maxHeartbeats 4000000 in
theorem codePut_any (v : Value) (L : List In) (w : World) (hS : Spn w) (h : Is w v L) (hlen : (codeB L).length ≤ 1000000) : Calls Tryd.prog 15 #[v] w (CPost w L) := by
  obtain ⟨i0, hi, hz0, hz1, hz2⟩ := info_parts Tryd.infoB
  obtain ⟨av, cap, rfl, hc1, hc2, hc3⟩ := h.shape
  have HI : Hid (Is w (.slice av L.length cap) L) := h
  have HS : Hid (Spn w) := hS
  have HRF : Hid (Calls Tryd.prog 17 #[.slice av L.length cap] w fun e w' => e = .returned (.int .i64 (refS L)) ∧ Below w.heap.size w w') := refused_any _ L w h
  obtain ⟨r, hr⟩ : ∃ r, refS L = r := ⟨_, rfl⟩
  have HR : Hid (refS L = r) := hr
  unfold CPost
  rw [hr] at HRF ⊢
  clear h hr hS
  by_cases h0 : r = 0
  case neg =>
    have hb : (r != 0) = true := by simp [h0]
    go_enter Tryd.func15, Tryd.ntmps15
    go_wp2_with fail
    refine HRF.out.mono ?_
    rintro e w1 ⟨rfl, b1⟩
    have HB1 : Hid (Below w.heap.size w w1) := b1
    clear b1
    go_wp2_with fail
    go_ret2
    refine ⟨_, rfl, ?_, HB1.out⟩
    rw [if_neg h0]
    exact By.nil _
  case pos =>
  subst h0
  obtain ⟨hfit, -, hl4⟩ := ref_fits HR.out
  have HFIT : Hid (∀ i ∈ L, In.fits i = true) := hfit
  have HLEN : Hid ((codeB L).length ≤ 1000000) := hlen
  clear hfit hlen HR
  go_enter Tryd.func15, Tryd.ntmps15
  go_wp2_with fail
  refine HRF.out.mono ?_
  rintro e w1 ⟨rfl, b1⟩
  have HB1 : Hid (Below w.heap.size w w1) := b1
  clear b1 HRF
  go_wp2_with fail
  go_loopg [5, 17] L.length (fun gk s5 s17 wr => ∃ (k : Nat) (v5 : Value), k + gk = L.length ∧ v5 = s5 ∧ s17 = .int .i64 (k : Int) ∧ Hid (OB wr w.heap.size v5 (codeB (L.take k))) ∧ Hid (Below w.heap.size w wr))
  case atStart => exact ⟨0, _, by omega, rfl, rfl, OB.nil _ _, HB1.out⟩
  case round =>
    obtain ⟨k, v5, hk, rfl, rfl, HO, HB⟩ := hrel
    clear HB1
    cases gk with
    | zero =>
      obtain rfl : k = L.length := by omega
      have hoy := HO.out.by
      rw [List.take_length] at hoy
      have HOY : Hid (By wr v5 (codeB L)) := hoy
      clear HO hoy
      go_wp2_with fail
      go_ret2
      refine ⟨_, rfl, ?_, HB.out⟩
      rw [if_pos rfl]
      exact HOY.out
    | succ g =>
      have hkl : k < L.length := by omega
      have hki : (k : Int) < (L.length : Int) := by omega
      have hkc : (k : Int) < (cap : Int) := by omega
      obtain ⟨b, off, p, m, c, rfl, hlt, ⟨a0w, a1w⟩, hg⟩ := HI.out.at k hkl
      have a0 : wr.cell? ⟨b, off + k * 2, none⟩ = some (.int .i64 L[k].op) := by rw [HB.out.cell (p := ⟨b, off + k * 2, none⟩) hlt]; exact a0w
      have a1 : wr.cell? ⟨b, off + k * 2 + 1, none⟩ = some (.slice p m c) := by rw [HB.out.cell (p := ⟨b, off + k * 2 + 1, none⟩) hlt]; exact a1w
      obtain ⟨I, hIk⟩ : ∃ I, L[k] = I := ⟨_, rfl⟩
      have HTK : Hid (codeB (L.take (k + 1)) = codeB (L.take k) ++ (ub8 I.op :: argsB I.K)) := by have := codeB_take L k hkl; rw [hIk] at this; exact this
      have hfo := fits_op (HFIT.out _ (List.getElem_mem hkl))
      rw [hIk] at a0 hg hfo
      clear hIk a0w a1w
      obtain ⟨op, K⟩ := I
      dsimp only at a0 hg hfo HTK
      obtain ⟨p', c', he, hcc1, hcc2, hcc3⟩ := hg.shape
      injection he with he1 he2 he3
      subst he1; subst he2; subst he3
      obtain ⟨hf1, hf2⟩ := hfo
      have hf3 : op ≤ 255 := by omega
      have hf4 : 0 ≤ op := by omega
      have HGS : Hid (Gs w (.slice p K.length c) K) := hg
      have ba := box_below wr #[.int .i64 op, .slice p K.length c] 27
      have bb := box_below (wr.alloc (.cells #[.int .i64 op, .slice p K.length c] 27)) #[.int .u8 op] 5
      have hws := HB.out.size
      have HB3 : Hid (Below w.heap.size w ((wr.alloc (.cells #[.int .i64 op, .slice p K.length c] 27)).alloc (.cells #[.int .u8 op] 5))) := (HB.out.trans (ba.mono HB.out.size)).trans (bb.mono (by simp; omega))
      have HX3 : Hid (BxI ((wr.alloc (.cells #[.int .i64 op, .slice p K.length c] 27)).alloc (.cells #[.int .u8 op] 5)) wr.heap.size op (.slice p K.length c)) := (BxI.new _ _ _).under bb
      obtain ⟨X, hX⟩ : ∃ X, codeB (L.take k) = X := ⟨_, rfl⟩
      rw [hX] at HO HTK
      have HO3 : Hid (OB ((wr.alloc (.cells #[.int .i64 op, .slice p K.length c] 27)).alloc (.cells #[.int .u8 op] 5)) w.heap.size v5 X) := (HO.out.under ba).under bb
      have hlit := By.lit (wr.alloc (.cells #[.int .i64 op, .slice p K.length c] 27)) op hf4 hf3
      rw [show (wr.alloc (.cells #[.int .i64 op, .slice p K.length c] 27)).heap.size = wr.heap.size + 1 by simp] at hlit
      have HLIT : Hid (By ((wr.alloc (.cells #[.int .i64 op, .slice p K.length c] 27)).alloc (.cells #[.int .u8 op] 5)) (.slice (some ⟨wr.heap.size + 1, 0, none⟩) 1 1) [ub8 op]) := hlit
      have hXl : X.length + 1 + (argsB K).length ≤ 1000000 := by
        have h1 := codeB_le L (k + 1)
        rw [HTK.out] at h1
        have h2 := HLEN.out
        simp only [List.length_append, List.length_cons] at h1
        omega
      clear hg ba bb hX HO hlit
      go_wp2_with (first | (at_builtin; refine wpList_append_by rfl _ _ rfl w.heap.size v5 X rfl HO3.out (by omega) (by simp; omega) _ [ub8 op] rfl HLIT.out (by simp) ?_; intro v7 w7 hO7 hBB hKK; have HO7 : Hid (OB w7 w.heap.size v7 (X ++ [ub8 op])) := hO7; have HB7 : Hid (Below w.heap.size w w7) := hBB _ _ (by simp; omega) (Nat.le_refl _) HB3.out; obtain ⟨y0, y1, -⟩ := (HX3.out.keep hKK).facts; clear hO7 hBB hKK) | fail)
      clear HO3 HB3 HX3 HLIT a0 a1 HB
      go_loopg [5, 30] K.length (fun gk2 s5 s30 ws => ∃ (k2 : Nat) (v8 : Value), k2 + gk2 = K.length ∧ v8 = s5 ∧ s30 = .int .i64 (k2 : Int) ∧ Hid (OB ws w.heap.size v8 (X ++ [ub8 op] ++ argsB (K.take k2))) ∧ Hid (Below w.heap.size w ws))
      case atStart =>
        refine ⟨0, _, by omega, rfl, rfl, ?_, HB7.out⟩
        have := HO7.out
        unfold Hid
        simpa [argsB] using this
      case round =>
        obtain ⟨k2, v8, hk2, rfl, rfl, HO, HB⟩ := hrel
        clear HO7 HB7 y0 y1
        cases gk with
        | zero =>
          obtain rfl : k2 = K.length := by omega
          have ho := HO.out
          rw [List.take_length, List.append_assoc] at ho
          have HOE : Hid (OB wr w.heap.size v8 (codeB (L.take (k + 1)))) := by unfold Hid; rw [HTK.out]; exact ho
          clear ho HO HTK HGS
          go_wp2_with fail
          go_roundg g
          case measure => omega
          case rel => exact ⟨k + 1, v8, by omega, rfl, by go_num, HOE, HB⟩
        | succ g2 =>
          have hkl2 : k2 < K.length := by omega
          have hki2 : (k2 : Int) < (K.length : Int) := by omega
          have hkc2 : (k2 : Int) < (c : Int) := by omega
          obtain ⟨b2, off2, ⟨xt, xn, xa, xm, xc⟩, rfl, hlt2, ⟨c0w, c1w, c2w⟩, hft, hx⟩ := HGS.out.at k2 hkl2
          unfold El.sl at c2w
          dsimp only at c0w c1w c2w
          have c0 : wr.cell? ⟨b2, off2 + k2 * 3, none⟩ = some (.int .i64 xt) := by rw [HB.out.cell (p := ⟨b2, off2 + k2 * 3, none⟩) hlt2]; exact c0w
          have c1 : wr.cell? ⟨b2, off2 + k2 * 3 + 1, none⟩ = some (.int .i64 xn) := by rw [HB.out.cell (p := ⟨b2, off2 + k2 * 3 + 1, none⟩) hlt2]; exact c1w
          have c2 : wr.cell? ⟨b2, off2 + k2 * 3 + 2, none⟩ = some (.slice xa xm xc) := by rw [HB.out.cell (p := ⟨b2, off2 + k2 * 3 + 2, none⟩) hlt2]; exact c2w
          have hws := HB.out.size
          have ba := box_below wr #[.int .i64 xt, .int .i64 xn, .slice xa xm xc] 30
          have HB4 : Hid (Below w.heap.size w (wr.alloc (.cells #[.int .i64 xt, .int .i64 xn, .slice xa xm xc] 30))) := HB.out.trans (ba.mono hws)
          have HO4 : Hid (OB (wr.alloc (.cells #[.int .i64 xt, .int .i64 xn, .slice xa xm xc] 30)) w.heap.size v8 (X ++ [ub8 op] ++ argsB (K.take k2))) := HO.out.under ba
          obtain ⟨Lx, hrx, hmx, hpx, hfx⟩ := put_tree (hx.under HB4.out)
          have HPT : Hid (Calls Tryd.prog 18 #[.slice none 0 0, .agg #[.int .i64 xt, .int .i64 xn, .slice xa xm xc]] (wr.alloc (.cells #[.int .i64 xt, .int .i64 xn, .slice xa xm xc] 30)) (fun e w' => PutA (wr.alloc (.cells #[.int .i64 xt, .int .i64 xn, .slice xa xm xc] 30)) [] K[k2].putT e w')) := by
            have := put_any (.slice none 0 0) [] ⟨xt, xn, xa, xm, xc⟩ Lx _ (HS.out.under HB4.out) (By.nil _) (by simp) hfx hrx hmx
            rw [hpx] at this
            exact this
          have HTA : Hid (argsB (K.take (k2 + 1)) = argsB (K.take k2) ++ K[k2].putT) := argsB_take K k2 hkl2
          obtain ⟨Z, hZ⟩ : ∃ Z, K[k2].putT = Z := ⟨_, rfl⟩
          obtain ⟨Y, hY⟩ : ∃ Y, X ++ [ub8 op] ++ argsB (K.take k2) = Y := ⟨_, rfl⟩
          have hYl : Y.length + Z.length ≤ 1000000 := by
            have h1 := argsB_le K (k2 + 1)
            rw [HTA.out, hZ, List.length_append] at h1
            rw [← hY]
            simp only [List.length_append, List.length_cons, List.length_nil]
            omega
          have HTY : Hid (X ++ [ub8 op] ++ argsB (K.take (k2 + 1)) = Y ++ Z) := by unfold Hid; rw [HTA.out, hZ, ← hY]; simp
          rw [hY] at HO4
          rw [hZ] at HPT
          clear c0w c1w c2w hft hx hrx hmx hpx hfx HTA hZ hY HO
          go_wp2_with fail
          refine HPT.out.mono ?_
          rintro e w9 ⟨v9, rfl, hy9, b9⟩
          rw [List.nil_append] at hy9
          have HY9 : Hid (By w9 v9 Z) := hy9
          have HO9 : Hid (OB w9 w.heap.size v8 Y) := HO4.out.under b9
          have HB9 : Hid (Below w.heap.size w w9) := HB4.out.trans (b9.mono HB4.out.size)
          have hw9 := HB9.out.size
          clear hy9 b9 HPT HO4 c0 c1 c2 HB4 ba
          go_wp2_with (first | (at_builtin; refine wpList_append_by rfl _ _ rfl w.heap.size v8 Y rfl HO9.out (by omega) hw9 v9 Z rfl HY9.out (by omega) ?_; intro v7 w7 hO7 hBB hKK; have HO7 : Hid (OB w7 w.heap.size v7 (Y ++ Z)) := hO7; have HB7 : Hid (Below w.heap.size w w7) := hBB _ _ hw9 (Nat.le_refl _) HB9.out; clear hO7 hBB hKK) | fail)
          go_roundg g2
          case measure => omega
          case rel => exact ⟨k2 + 1, v7, by omega, rfl, by go_num, by rw [HTY.out]; exact HO7, HB7⟩
end Go.Proofs.YtfjibcldghnjcaaDoor
