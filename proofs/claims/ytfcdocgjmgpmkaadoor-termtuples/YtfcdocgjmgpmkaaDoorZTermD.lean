import Derived.Test.YtfcdocgjmgpmkaaDoorZTermA
import Derived.Lib.Builder
import Derived.Lib.AppendStr
import Derived.Lib.OthersKept
import Derived.Lib.UnsafeStr
import Derived.Lib.Strings
import Derived.Laws.Externs
import Derived.Test.YtfcdocgjmgpmkaaDoorTermSpell
import Derived.Test.YtfcdocgjmgpmkaaDoorZNumD
import Derived.Shelf.Strings.Builder1
import Derived.Test.YtfcdocgjmgpmkaaDoorProg

/-
  strings.Builder: copyCheck, WriteString (of a builder of the call's own).
-/
namespace Go.Proofs.YtfcdocgjmgpmkaaDoor
open Go.RowKit
set_option linter.unusedVariables false
set_option linter.unusedSimpArgs false

theorem Tryd.sizeBuilder : (Tryd.prog.info? 61).map (·.size) = some 2 := by kernel_rfl
theorem Tryd.liesBuilder : liesAt Tryd.prog Tryd.prog.depth 61 (2 / Tryd.prog.cellsOf 61) 0 61 1 = true := by kernel_rfl
theorem Tryd.infoU8b : (Tryd.prog.info? 5).map (fun i => (i.zero, i.size, i.bytes)) = some (some (.int .u8 0), 1, 1) := by kernel_rfl

set_option maxHeartbeats 1000000 in
set_option maxRecDepth 100000 in
theorem copyCheck_used (b : Nat) (w : World) (h0 : w.cell? ⟨b, 0, none⟩ = some (.pointer (some ⟨b, 0, none⟩))) :
    Calls Tryd.prog 52 #[.pointer (some ⟨b, 0, none⟩)] w fun e w' => e = .returned (.tuple #[]) ∧ w' = w := by
  obtain ⟨j, hj, _⟩ := Option.map_eq_some_iff.1 Tryd.sizeBuilder
  go_enter Tryd.func52, Tryd.ntmps52
  go_wp2_with fail
  rw [Lib.run_neq_ptr_same w _ Tryd.underlying58 hj]
  go_wp2_with fail
  go_end0
  exact ⟨rfl, rfl⟩

set_option maxHeartbeats 1000000 in
set_option maxRecDepth 100000 in
theorem copyCheck_fresh (b : Nat) (w : World) (h0 : w.cell? ⟨b, 0, none⟩ = some (.pointer none)) (hsh : w.shape? b = some (61, 2)) (hfz : w.frozen? ⟨b, 0, none⟩ = false) :
    Calls Tryd.prog 52 #[.pointer (some ⟨b, 0, none⟩)] w fun e w' => e = .returned (.tuple #[]) ∧ w' = w.setCell ⟨b, 0, none⟩ (.pointer (some ⟨b, 0, none⟩)) := by
  obtain ⟨j, hj, hjs⟩ := Option.map_eq_some_iff.1 Tryd.sizeBuilder
  go_enter Tryd.func52, Tryd.ntmps52
  go_wp2_with fail
  rw [Lib.run_to_unsafe w ⟨b, 0, none⟩ Tryd.underlying58 Tryd.underlying96 hj (by rw [hjs]; decide) hsh (Nat.zero_lt_succ 1)]
  simp only [Result.andThen]
  rw [Oper.upon_value]
  go_wp2_with fail
  rw [run_callFunc_extern Tryd.func65 (by kernel_rfl) (by kernel_rfl) (by kernel_rfl) (e := Extern.AbiNoEscape.same) (by kernel_rfl)]
  rw [Lib.run_noEscape]
  simp only [Result.andThen]
  rw [Oper.upon_value]
  go_wp2_with fail
  rw [Lib.run_from_unsafe w ⟨b, 0, none⟩ Tryd.underlying96 Tryd.underlying58 hj hsh Tryd.liesBuilder]
  simp only [Result.andThen]
  rw [Oper.upon_value]
  go_wp2_with fail
  go_end0
  exact ⟨rfl, rfl⟩

/-- A builder of the call's own that holds the bytes l. -/
def Bld (B b : Nat) (l : List UInt8) (w : World) : Prop := Lib.IsBuilder 61 5 B b (Lib.byteCells l) w

theorem copyCheck_any (B b : Nat) (l : List UInt8) (w : World) (h : Bld B b l w) :
    Calls Tryd.prog 52 #[.pointer (some ⟨b, 0, none⟩)] w fun e w' => e = .returned (.tuple #[]) ∧ (Lib.BuilderAt 61 5 B b (.pointer (some ⟨b, 0, none⟩)) (Lib.byteCells l) w' ∧ Below B w w' ∧ Lib.OthersKept 5 (some b) w w') := by
  rcases h with h | h
  · refine (copyCheck_fresh b w h.cell0 h.shape h.frozen0).mono ?_
    rintro e w' ⟨rfl, rfl⟩
    exact ⟨rfl, h.used _, (Below.refl B w).setCell (p := ⟨b, 0, none⟩) h.1 _, (Lib.OthersKept.refl _ _ w).setCell ⟨b, 0, none⟩ rfl _⟩
  · refine (copyCheck_used b w h.cell0).mono ?_
    rintro e w' ⟨rfl, rfl⟩
    exact ⟨rfl, h, Below.refl B _, Lib.OthersKept.refl _ _ _⟩

set_option maxHeartbeats 2000000 in
set_option maxRecDepth 100000 in
theorem write_any (B b : Nat) (l : List UInt8) (s : ByteArray) (w : World) (h : Bld B b l w) (hlen : l.length + s.size ≤ 1000000000) (hBw : B ≤ w.heap.size) :
    Calls Tryd.prog 37 #[.pointer (some ⟨b, 0, none⟩), .string s] w fun e w' => e = .returned (.tuple #[.int .i64 s.size, .nilIface]) ∧ (Bld B b (l ++ s.data.toList) w' ∧ Below B w w' ∧ Lib.OthersKept 5 (some b) w w') := by
  obtain ⟨i0, hi, hz0, hz1, hz2⟩ := info_parts Tryd.infoU8b
  go_enter Tryd.func37, Tryd.ntmps37
  go_wp2_with fail
  refine (copyCheck_any B b l _ h).mono ?_
  rintro e w1 ⟨rfl, h1, hb1, hk1⟩
  obtain ⟨hB, v, hbk, hown, hne⟩ := h1
  have c0 : w1.cell? ⟨b, 0, none⟩ = some (.pointer (some ⟨b, 0, none⟩)) := by rw [Lib.cell_of_heap hbk]; rfl
  have c1 : w1.cell? ⟨b, 1, none⟩ = some v := by rw [Lib.cell_of_heap hbk]; rfl
  have hll : (Lib.byteCells l).length = l.length := by simp [Lib.byteCells]
  have HLL : Hid ((Lib.byteCells l).length = l.length) := hll
  clear hll
  go_wp2_with (first | (at_builtin; refine Lib.wpList_append_own_string _ rfl _ _ 59 9 rfl B 5 i0 Tryd.underlying59 Tryd.underlying9 hi hz0 hz1 hz2 _ _ _ rfl hown s rfl ?c3 ?c4 ?c5 ?_) | fail)
  case c3 => have := HLL.out; unfold maxLen; omega
  case c4 => have := HLL.out; omega
  case c5 => have := hb1.size; omega
  intro v' w2 hown' hgrow _
  have hlt : b < w1.heap.size := (Array.getElem?_eq_some_iff.1 hbk).1
  have hb2 : w2.heap[b]? = some (.cells #[.pointer (some ⟨b, 0, none⟩), v] 61 (0, 0)) := by
    rw [hgrow.block b hlt (fun e => hne e.symm)]
    exact hbk
  have d0 : w2.cell? ⟨b, 0, none⟩ = some (.pointer (some ⟨b, 0, none⟩)) := by rw [Lib.cell_of_heap hb2]; rfl
  have d1 : w2.cell? ⟨b, 1, none⟩ = some v := by rw [Lib.cell_of_heap hb2]; rfl
  have f1 : w2.frozen? ⟨b, 1, none⟩ = false := Lib.frozen_of_heap hb2 1
  obtain ⟨ao, n', cap, rfl⟩ : ∃ ao n' cap, v' = .slice ao n' cap := by
    rcases hown'.2 with ⟨hv, _⟩ | ⟨g, cap, cur, hv, _⟩
    · exact ⟨_, _, _, hv⟩
    · exact ⟨_, _, _, hv⟩
  have HK : Hid (Lib.OthersKept 5 (some b) w w2) := hk1.grown hgrow (fun r e => by
    rcases hown.2 with ⟨hv, _⟩ | ⟨g, cap, cur, hv, _, hg, _⟩
    · rw [hv] at e; cases e
    · rw [hv] at e; cases e; exact ⟨_, _, hg⟩)
  have HB : Hid (Below B w w2) := hb1.grown hgrow (by have := hb1.size; omega) (fun k hk => (hown.lt k hk).1)
  have HW : Hid (w2.ownsRow B 5 1 (.slice ao n' cap) ((Lib.byteCells l).length + s.size) (Lib.byteCells l ++ Lib.strCells s)) := hown'
  clear hown' hgrow hown hk1 hb1 hbk hne c0 c1
  go_wp2_with fail
  go_ret2
  refine ⟨rfl, ?_, ?_, ?_⟩
  · refine Or.inr (Lib.BuilderAt.put (T := 61) (e := 5) hB hb2 (bs' := Lib.byteCells (l ++ s.data.toList)) ?_ (by decide))
    have e1 : Lib.byteCells (l ++ s.data.toList) = Lib.byteCells l ++ Lib.strCells s := by simp [Lib.byteCells, Lib.strCells]
    rw [e1, List.length_append, Lib.strCells_length]
    exact HW.out
  · exact HB.out.setCell (p := ⟨b, 1, none⟩) hB _
  · exact HK.out.setCell ⟨b, 1, none⟩ rfl _
end Go.Proofs.YtfcdocgjmgpmkaaDoor


/-
  term.ownText; the texts of terms.
-/
namespace Go.Proofs.YtfcdocgjmgpmkaaDoor
open Go.RowKit
set_option linter.unusedVariables false
set_option linter.unusedSimpArgs false

/-- The text of a term that has no parts in it: numbers, atoms, nil. -/
def ownT (t : Tm) : ByteArray := if t.kind = 1 then strOfNums (decL (val t.neg t.limbs)) else if t.kind = 2 then t.str else ⟨#[91, 93]⟩

set_option maxHeartbeats 2000000 in
theorem ownText_any (t : Tm) (v : Value) (w : World) (h : IsT w t v) (hk : t.kind = 1 ∨ t.kind = 2 ∨ t.kind = 3) : Calls Tryd.prog 38 #[v] w fun e w' => e = .returned (.string (ownT t)) ∧ Below w.heap.size w w' := by
  obtain ⟨sl, sk, rfl, hl, hkk, -, -, -⟩ := h.open
  obtain ⟨pl, cl, rfl⟩ := hl.shape
  obtain ⟨pk, ck, rfl, -⟩ := hkk.shape
  simp only [tmV] at *
  obtain ⟨q, hq⟩ : ∃ q, ownT t = q := ⟨_, rfl⟩
  have HQ : Hid (ownT t = q) := hq
  rw [hq]
  clear hq h
  obtain ⟨kk, hkd⟩ : ∃ kk, t.kind = kk := ⟨_, rfl⟩
  have HQ2 : Hid (q = if kk = 1 then strOfNums (decL (val t.neg t.limbs)) else if kk = 2 then t.str else ⟨#[91, 93]⟩) := by show q = _; rw [← HQ.out, ownT, hkd]
  rw [hkd] at hk ⊢
  clear hkd HQ
  rcases hk with rfl | rfl | rfl
  · have HZ : Hid (q = strOfNums (decL (val t.neg t.limbs))) := by show q = _; rw [HQ2.out, if_pos rfl]
    clear HQ2
    have hb1 := (Below.refl w.heap.size w).alloc (Nat.le_refl _) (.cells #[.int .i64 1, .bool t.neg, .slice pl t.limbs.length cl, .string t.str, .int .i64 t.num, .slice pk t.kids.length ck] 27)
    have qn : Nx (w.alloc (.cells #[.int .i64 1, .bool t.neg, .slice pl t.limbs.length cl, .string t.str, .int .i64 t.num, .slice pk t.kids.length ck] 27)) (.agg #[.bool t.neg, .slice pl t.limbs.length cl]) (val t.neg t.limbs) := ⟨t.neg, t.limbs, ⟨_, rfl, hl.below hb1⟩, rfl⟩
    go_enter Tryd.func38, Tryd.ntmps38
    go_wp2_with fail
    refine (text_any _ _ _ qn).mono ?_
    rintro e w1 ⟨rfl, b1⟩
    have hbw := hb1.trans (b1.mono hb1.size)
    clear hb1 b1 qn
    go_wp2_with fail
    go_ret
    exact ⟨by rw [HZ.out]; rfl, hbw⟩
  · have HZ : Hid (q = t.str) := by show q = _; rw [HQ2.out, if_neg (by decide), if_pos rfl]
    clear HQ2
    go_enter Tryd.func38, Tryd.ntmps38
    go_wp2_with fail
    go_ret
    exact ⟨by rw [HZ.out]; rfl, (Below.refl _ _).alloc (Nat.le_refl _) _⟩
  · have HZ : Hid (q = ⟨#[91, 93]⟩) := by show q = _; rw [HQ2.out, if_neg (by decide), if_neg (by decide)]
    clear HQ2
    go_enter Tryd.func38, Tryd.ntmps38
    go_wp2_with fail
    go_ret
    exact ⟨by rw [HZ.out]; rfl, (Below.refl _ _).alloc (Nat.le_refl _) _⟩

def txM (c : UInt8) : List (List UInt8) → List UInt8
  | [] => []
  | t :: r => c :: (t ++ txM c r)
def txL (c : UInt8) : List (List UInt8) → List UInt8
  | [] => []
  | t :: r => t ++ txM c r
/-- The text of a term. -/
def txt : Tm → List UInt8 := Tm.fold (fun t Ks => if t.kind = 4 then 91 :: (txL 124 Ks ++ [93]) else if t.kind = 5 then 123 :: (txL 44 Ks ++ [125]) else (ownT t).data.toList)
def txtM (c : UInt8) : List Tm → List UInt8
  | [] => []
  | t :: r => c :: (txt t ++ txtM c r)
/-- With commas between. -/
def txtL : List Tm → List UInt8
  | [] => []
  | t :: r => txt t ++ txtM 44 r
/-- With a bar between, of the first two. -/
def txtC : List Tm → List UInt8
  | [] => []
  | t :: r => txt t ++ txtM 124 r
theorem txM_map (c : UInt8) : ∀ l : List Tm, txM c (l.map txt) = txtM c l
  | [] => rfl
  | t :: r => by simp only [List.map_cons, txM, txtM, txM_map c r]
theorem txt_mk (k : Int) (n : Bool) (L : List Int) (S : ByteArray) (N : Int) (K : List Tm) : txt (.mk k n L S N K) = if k = 4 then 91 :: (txtC K ++ [93]) else if k = 5 then 123 :: (txtL K ++ [125]) else (ownT (.mk k n L S N K)).data.toList := by
  have e1 : txL 124 (K.map txt) = txtC K := by cases K with
    | nil => rfl
    | cons t r => simp only [List.map_cons, txL, txtC, txM_map]
  have e2 : txL 44 (K.map txt) = txtL K := by cases K with
    | nil => rfl
    | cons t r => simp only [List.map_cons, txL, txtL, txM_map]
  rw [← e1, ← e2]
  unfold txt
  rw [Tm.fold_mk]
/-- Terms that have a text here: numbers, atoms, nil, pairs, tuples. -/
def spk : Tm → Prop := Tm.fold (fun t Ks => if t.kind = 4 then Ks.length = 2 ∧ andL Ks else if t.kind = 5 then andL Ks else (t.kind = 1 ∨ t.kind = 2 ∨ t.kind = 3))
def spkL : List Tm → Prop
  | [] => True
  | t :: r => spk t ∧ spkL r
theorem spkL_and : ∀ l : List Tm, andL (l.map spk) = spkL l
  | [] => rfl
  | t :: r => by simp only [List.map_cons, andL, spkL, spkL_and r]
theorem spk_mk (k : Int) (n : Bool) (L : List Int) (S : ByteArray) (N : Int) (K : List Tm) : spk (.mk k n L S N K) = (if k = 4 then K.length = 2 ∧ spkL K else if k = 5 then spkL K else (k = 1 ∨ k = 2 ∨ k = 3)) := by
  rw [← spkL_and]
  unfold spk
  rw [Tm.fold_mk]
  simp only [List.length_map]
def wsumL : List Nat → Nat
  | [] => 0
  | x :: r => x + wsumL r
/-- How often a term is taken up till its text is told. -/
def wt : Tm → Nat := Tm.fold (fun t Ks => if t.kind = 4 ∨ t.kind = 5 then 4 + 2 * Ks.length + wsumL Ks else 1)
def wtL : List Tm → Nat
  | [] => 0
  | t :: r => wt t + wtL r
theorem wsumL_map : ∀ l : List Tm, wsumL (l.map wt) = wtL l
  | [] => rfl
  | t :: r => by simp only [List.map_cons, wsumL, wtL, wsumL_map r]
theorem wt_mk (k : Int) (n : Bool) (L : List Int) (S : ByteArray) (N : Int) (K : List Tm) : wt (.mk k n L S N K) = if k = 4 ∨ k = 5 then 4 + 2 * K.length + wtL K else 1 := by
  rw [← wsumL_map]
  unfold wt
  rw [Tm.fold_mk]
  simp only [List.length_map]
theorem wt_pos (t : Tm) : 1 ≤ wt t := by cases t; simp only [wt_mk]; split <;> omega
theorem wt_mark (s : ByteArray) : wt (tmMark s) = 1 := by simp [wt_mk, tmMark]
theorem spk_mark (s : ByteArray) : spk (tmMark s) := by simp [spk_mk, tmMark]
theorem txt_mark (s : ByteArray) : txt (tmMark s) = s.data.toList := by simp [txt_mk, tmMark, ownT, Tm.kind, Tm.str]

/-- The text of those that wait: the last one first. -/
def stT : List (Value × Tm) → List UInt8
  | [] => []
  | p :: r => stT r ++ txt p.2
def stW : List (Value × Tm) → Nat
  | [] => 0
  | p :: r => stW r + wt p.2
theorem stT_app (a b : List (Value × Tm)) : stT (a ++ b) = stT b ++ stT a := by
  induction a with
  | nil => simp [stT]
  | cons x r ih => simp [stT, ih]
theorem stW_app (a b : List (Value × Tm)) : stW (a ++ b) = stW b + stW a := by
  induction a with
  | nil => simp [stW]
  | cons x r ih => simp [stW, ih]; omega
theorem stW_len (a : List (Value × Tm)) : a.length ≤ stW a := by
  induction a with
  | nil => simp
  | cons x r ih => have := wt_pos x.2; simp [stW]; omega

/-- Texts joined by a sign. -/
def joinC (c : UInt8) : List Tm → List UInt8
  | [] => []
  | t :: r => txt t ++ txtM c r
theorem joinC_44 (K : List Tm) : joinC 44 K = txtL K := by cases K <;> simp [joinC, txtL]
theorem joinC_124 (K : List Tm) : joinC 124 K = txtC K := by cases K <;> simp [joinC, txtC]

theorem Came.snoc {w0 : World} {K : List Tm} {q : List (El w0)} {x : El w0} (h : Came K (q ++ [x])) : Came K q ∧ x.i + q.length + 1 = K.length ∧ K[x.i]? = some x.t := by
  obtain ⟨h1, h2⟩ := h
  refine ⟨⟨by simp at h1; omega, fun j hj => ?_⟩, ?_⟩
  · have := h2 j (by simp; omega)
    rwa [List.getElem_append_left hj] at this
  · have := h2 q.length (by simp)
    rw [List.getElem_append_right (by omega)] at this
    simpa using this

theorem sp_text {w0 : World} (K : List Tm) (m : ByteArray) (c : UInt8) (hm : m.data.toList = [c]) : ∀ (n : Nat) (pre : List (El w0)), pre.length = n → Came K pre →
    stT (spieces m pre) = (if pre.length = K.length then joinC c K else txtM c (K.drop (K.length - pre.length))) ∧ stW (spieces m pre) ≤ wtL (K.drop (K.length - pre.length)) + pre.length ∧ (∀ p ∈ spieces m pre, (∃ y ∈ K, p.2 = y ∧ IsT w0 y p.1) ∨ p = (mkV m, tmMark m)) := by
  intro n
  induction n with
  | zero =>
    intro pre hl hc
    obtain rfl : pre = [] := List.eq_nil_of_length_eq_zero hl
    refine ⟨?_, by simp [spieces, stW], by simp [spieces]⟩
    simp only [spieces, List.flatMap_nil, stT, List.length_nil, Nat.sub_zero, List.drop_length, txtM]
    split
    · rename_i h
      have : K = [] := List.eq_nil_of_length_eq_zero h.symm
      rw [this]; rfl
    · rfl
  | succ n ih =>
    intro pre hl hc
    rcases snoc_or pre with rfl | ⟨q, x, rfl⟩
    · simp at hl
    · obtain ⟨hq, hi, hk⟩ := hc.snoc
      obtain ⟨e1, e2, e3⟩ := ih q (by simpa using hl) hq
      have hlt : x.i < K.length := (List.getElem?_eq_some_iff.1 hk).1
      have hki : K[x.i] = x.t := by
        have := List.getElem?_eq_getElem hlt
        rw [hk] at this
        injection this with this
        exact this.symm
      have hd : K.drop x.i = x.t :: K.drop (x.i + 1) := by rw [List.drop_eq_getElem_cons hlt, hki]
      have hne : ¬ q.length = K.length := by omega
      have hs1 : K.length - q.length = x.i + 1 := by omega
      have hs2 : K.length - (q ++ [x]).length = x.i := by simp; omega
      rw [if_neg hne, hs1] at e1
      rw [hs1] at e2
      have hmark : txt (tmMark m) = [c] := by rw [txt_mark]; exact hm
      rw [spieces_snoc]
      refine ⟨?_, ?_, ?_⟩
      · rw [stT_app, e1, hs2]
        by_cases h0 : 0 < x.i
        · have h0' : ¬ (q ++ [x]).length = K.length := by simp; omega
          rw [if_neg h0', hd]
          simp [spiece, h0, stT, txtM, hmark]
        · have h0' : (q ++ [x]).length = K.length := by simp; omega
          have hx0 : x.i = 0 := by omega
          rw [if_pos h0']
          have hK : K = x.t :: K.drop (x.i + 1) := by rw [← hd, hx0]; rfl
          rw [hK]
          simp [spiece, hx0, stT, joinC]
      · rw [stW_app, hs2, hd]
        have hwl : wtL (x.t :: K.drop (x.i + 1)) = wt x.t + wtL (K.drop (x.i + 1)) := by simp [wtL]
        rw [hwl]
        have : stW (spiece m x) ≤ wt x.t + 1 := by
          unfold spiece
          split <;> simp [stW, wt_mark]; omega
        simp; omega
      · intro p hp
        rcases List.mem_append.1 hp with h | h
        · exact e3 p h
        · unfold spiece at h
          rcases List.mem_cons.1 h with h | h
          · left
            exact ⟨x.t, List.mem_of_getElem? hk, by rw [h], by rw [h]; exact x.h⟩
          · right
            split at h
            · simpa using h
            · simp at h
end Go.Proofs.YtfcdocgjmgpmkaaDoor

/-
  (*strings.Builder).String at this program: the shelf's contract, laid.
-/
namespace Go.Proofs.YtfcdocgjmgpmkaaDoor
open Go.Shelf Go.RowKit
def laylays169_ren : Go.Shelf.Ren := ⟨fun | 169 => 39 | n => n, fun | 70 => 58 | 9 => 9 | 0 => 0 | 72 => 61 | 37 => 59 | 127 => 83 | 3 => 3 | 5 => 5 | n => n, fun | n => n⟩
theorem laylays169 : Go.Proofs.Lays.n169 Tryd.prog laylays169_ren := {
  mixed := by kernel_rfl
  f169 := Tryd.func39.trans (congrArg some (by kernel_rfl))
  t0 := Tryd.underlying0
  a0 := Tryd.isAgg0
  z0 := Tryd.sizeOf0
  v0 := Tryd.zeroValue0
  t3 := Tryd.underlying3
  a3 := Tryd.isAgg3
  z3 := Tryd.sizeOf3
  v3 := Tryd.zeroValue3
  t9 := Tryd.underlying9
  a9 := Tryd.isAgg9
  z9 := Tryd.sizeOf9
  v9 := Tryd.zeroValue9
  t37 := Tryd.underlying59
  a37 := Tryd.isAgg59
  z37 := Tryd.sizeOf59
  v37 := Tryd.zeroValue59
  t70 := Tryd.underlying58
  a70 := Tryd.isAgg58
  z70 := Tryd.sizeOf58
  v70 := Tryd.zeroValue58
  t72 := Tryd.underlying61
  a72 := Tryd.isAgg61
  z72 := Tryd.sizeOf61
  v72 := Tryd.zeroValue61
  t127 := Tryd.underlying83
  a127 := Tryd.isAgg83
  z127 := Tryd.sizeOf83
  v127 := Tryd.zeroValue83 }
theorem layBuilder_Extra_169 : Go.Proofs.Builder.Extra Tryd.prog laylays169_ren := {
  sizeBuilder := by kernel_rfl
  liesBuilder := by kernel_rfl
  t5 := Tryd.underlying5
  a5 := Tryd.isAgg5
  z5 := Tryd.sizeOf5
  v5 := Tryd.zeroValue5
  infoByte := by kernel_rfl
  cellsByte := by kernel_rfl
  sizeByte := by kernel_rfl
  neB5 := by decide }
theorem layBuilder_String_any (B b : Nat) (l : List UInt8) (w : World) (h : Lib.IsBuilder 61 5 B b (Lib.byteCells l) w) (hBw : B ≤ w.heap.size) :
    Calls Tryd.prog 39 #[.pointer (some ⟨b, 0, none⟩)] w fun e w' => e = .returned (.string ⟨l.toArray⟩) ∧ Below B w w' := Go.Proofs.Any.Builder_String_any laylays169 layBuilder_Extra_169 B b l w h hBw
end Go.Proofs.YtfcdocgjmgpmkaaDoor


/-
  term.Text.
-/
namespace Go.Proofs.YtfcdocgjmgpmkaaDoor
open Go.RowKit
set_option linter.unusedVariables false
set_option linter.unusedSimpArgs false

section
variable {B b : Nat} {l : List UInt8} {w w' : World} {v : Value} {ps : List (Value × Tm)}
theorem WaitT.row {g n cap : Nat} (h : WaitT w B (.slice (some ⟨g, 0, none⟩) n cap) ps) : ∃ cur, w.heap[g]? = some (.cells cur 27 (0, 0)) ∧ B ≤ g ∧ n = ps.length ∧ n ≤ cap ∧ cap ≤ maxLen := by
  rcases h.2 with ⟨h', _⟩ | ⟨g', cap', cur, h', hb, hg, h1, h2, _⟩
  · simp at h'
  · simp only [Value.slice.injEq, Option.some.injEq, Addr.mk.injEq, and_true, true_and] at h'
    obtain ⟨rfl, e, rfl⟩ := h'
    exact ⟨cur, hg, hb, e, by omega, h2⟩
theorem WaitT.block {g n cap : Nat} (h : WaitT w B (.slice (some ⟨g, 0, none⟩) n cap) ps) (hb : w'.heap[g]? = w.heap[g]?) : WaitT w' B (.slice (some ⟨g, 0, none⟩) n cap) ps := by
  rcases h.2 with ⟨h', _⟩ | ⟨g', cap', cur, h', hb', hg, h1, h2, h3, h4⟩
  · simp at h'
  · refine ⟨h.1, Or.inr ⟨g', cap', cur, h', hb', ?_, h1, h2, h3, h4⟩⟩
    simp only [Value.slice.injEq, Option.some.injEq, Addr.mk.injEq, and_true, true_and] at h'
    obtain ⟨rfl, -⟩ := h'
    rw [hb]; exact hg
theorem Bld.lt (h : Bld B b l w) : b < w.heap.size := by
  rcases h with h | h
  · exact h.lt
  · exact h.lt
/-- A builder stays one, if its block and its row of bytes stay. -/
theorem Bld.kept (h : Bld B b l w) (hb : w'.heap[b]? = w.heap[b]?) (hr : ∀ (k : Nat) cur, w.heap[k]? = some (.cells cur 5 (0, 0)) → w'.heap[k]? = w.heap[k]?) : Bld B b l w' := by
  have aux : ∀ p, Lib.BuilderAt 61 5 B b p (Lib.byteCells l) w → Lib.BuilderAt 61 5 B b p (Lib.byteCells l) w' := by
    rintro p ⟨hB, v, h1, h2, h3⟩
    refine ⟨hB, v, by rw [hb]; exact h1, ⟨h2.1, ?_⟩, h3⟩
    rcases h2.2 with h | ⟨g, cap, cur, e, hb', hg, r1, r2, r3, r4⟩
    · exact Or.inl h
    · exact Or.inr ⟨g, cap, cur, e, hb', by rw [hr g cur hg]; exact hg, r1, r2, r3, r4⟩
  rcases h with h | h
  · exact Or.inl (aux _ h)
  · exact Or.inr (aux _ h)
theorem Bld.block (h : Bld B b l w) : ∃ c, w.heap[b]? = some (.cells c 61 (0, 0)) := by
  rcases h with ⟨_, v, h, _⟩ | ⟨_, v, h, _⟩
  · exact ⟨_, h⟩
  · exact ⟨_, h⟩
/-- .. whatever is written into a block of terms. -/
theorem Bld.grown {g : Nat} {cur : Array Value} {fr : Nat × Nat} (h : Bld B b l w) (hg : w.grownBy w' (some g)) (hc : w.heap[g]? = some (.cells cur 27 fr)) : Bld B b l w' := by
  obtain ⟨c, hb⟩ := h.block
  refine h.kept (hg.block b h.lt (fun e => ?_)) (fun k cur' hk => hg.block k (Array.getElem?_eq_some_iff.1 hk).1 (fun e => ?_))
  · injection e with e; rw [e, hc] at hb; simp at hb
  · injection e with e; rw [e, hc] at hk; simp at hk
theorem Bld.below (h : Bld B b l w) (hb : Below w.heap.size w w') : Bld B b l w' :=
  h.kept (hb.block b h.lt) (fun k cur hk => hb.block k (Array.getElem?_eq_some_iff.1 hk).1)
end

set_option maxHeartbeats 1000000 in
theorem ends_val (k : Int) (neg : Bool) (pl : Option Addr) (nl cl : Nat) (S : ByteArray) (N : Int) (pk : Option Addr) (ck : Nat) (w : World) (hc : (2 : Int) ≤ (ck : Int)) (hc2 : (ck : Int) ≤ 9223372036854775807) :
    Calls Tryd.prog 36 #[.agg #[.int .i64 k, .bool neg, .slice pl nl cl, .string S, .int .i64 N, .slice pk 2 ck]] w fun e w' => e = .returned (.slice pk 2 ck) ∧ Below w.heap.size w w' := by
  go_enter Tryd.func36, Tryd.ntmps36
  go_wp2_with fail
  go_ret
  exact ⟨rfl, (Below.refl _ _).alloc (Nat.le_refl _) _⟩

theorem spk_own (t : Tm) (h : spk t) (h4 : ¬ t.kind = 4) (h5 : ¬ t.kind = 5) : t.kind = 1 ∨ t.kind = 2 ∨ t.kind = 3 := by
  cases t
  simp only [Tm.kind] at *
  rw [spk_mk, if_neg h4, if_neg h5] at h
  exact h
theorem txt_own (t : Tm) (h4 : ¬ t.kind = 4) (h5 : ¬ t.kind = 5) : txt t = (ownT t).data.toList := by
  cases t
  simp only [Tm.kind] at *
  rw [txt_mk, if_neg h4, if_neg h5]
theorem spkL_mem : ∀ {l : List Tm} (_ : spkL l) {y : Tm} (_ : y ∈ l), spk y
  | t :: r, h, y, hy => by
    rw [spkL] at h
    rcases List.mem_cons.1 hy with rfl | hy
    · exact h.1
    · exact spkL_mem h.2 hy
theorem kids_wt (t : Tm) : (t.kind = 4 ∨ t.kind = 5) → wt t = 4 + 2 * t.kids.length + wtL t.kids := by
  intro h
  cases t
  simp only [Tm.kind, Tm.kids] at *
  rw [wt_mk, if_pos h]

theorem spk_cons (t : Tm) (h : spk t) (h4 : t.kind = 4) : t.kids.length = 2 ∧ spkL t.kids := by
  cases t
  simp only [Tm.kind, Tm.kids] at *
  rw [spk_mk, if_pos h4] at h
  exact h
theorem spk_tup (t : Tm) (h : spk t) (h5 : t.kind = 5) : spkL t.kids := by
  cases t
  simp only [Tm.kind, Tm.kids] at *
  rw [spk_mk, if_neg (by omega), if_pos h5] at h
  exact h
theorem txt_cons (t : Tm) (h4 : t.kind = 4) : txt t = 91 :: (txtC t.kids ++ [93]) := by
  cases t
  simp only [Tm.kind, Tm.kids] at *
  rw [txt_mk, if_pos h4]
theorem txt_tup (t : Tm) (h5 : t.kind = 5) : txt t = 123 :: (txtL t.kids ++ [125]) := by
  cases t
  simp only [Tm.kind, Tm.kids] at *
  rw [txt_mk, if_neg (by omega), if_pos h5]

def TxRel (w : World) (t : Tm) (gk : Nat) (s4 : Value) (wr : World) : Prop :=
  ∃ (g cap : Nat) (l : List UInt8) (ps : List (Value × Tm)) (k : Int) (neg : Bool) (sl : Value) (S : ByteArray) (N : Int) (sk : Value), s4 = .slice (some ⟨g, 0, none⟩) ps.length cap ∧ WaitT wr w.heap.size (.slice (some ⟨g, 0, none⟩) ps.length cap) ps ∧ (∀ p ∈ ps, IsT w p.2 p.1 ∧ spk p.2) ∧ stW ps ≤ gk ∧ gk ≤ 100000 ∧ l ++ stT ps = txt t ∧
    Bld w.heap.size (w.heap.size + 1) l wr ∧ Bt wr w.heap.size k neg sl S N sk ∧ Below w.heap.size w wr ∧ g ≠ w.heap.size

set_option maxRecDepth 100000 in
set_option maxHeartbeats 8000000 in
theorem ttext_any (t : Tm) (v : Value) (w : World) (h : IsT w t v) (hs : spk t) (hw : wt t ≤ 100000) (hl : (txt t).length ≤ 100000000) :
    Calls Tryd.prog 21 #[v] w fun e w' => e = .returned (.string ⟨(txt t).toArray⟩) ∧ Below w.heap.size w w' := by
  have h0 := h
  obtain ⟨sl, sk, rfl, hll, hkk, -, -, -⟩ := h.open
  obtain ⟨pl, cl, rfl⟩ := hll.shape
  obtain ⟨pk, ck, rfl, -⟩ := hkk.shape
  simp only [tmV] at h0 ⊢
  go_enter Tryd.func21, Tryd.ntmps21
  go_wp2_with fail
  have hst : TxRel w t (wt t) (.slice (some ⟨w.heap.size + 1 + 1, 0, none⟩) 1 1) (((w.alloc (.cells #[.int .i64 t.kind, .bool t.neg, .slice pl t.limbs.length cl, .string t.str, .int .i64 t.num, .slice pk t.kids.length ck] 27)).alloc (.cells #[.pointer none, .slice none 0 0] 61)).alloc (.cells #[.int .i64 t.kind, .bool t.neg, .slice pl t.limbs.length cl, .string t.str, .int .i64 t.num, .slice pk t.kids.length ck] 27)) := by
    have b1 := (Below.refl w.heap.size w).alloc (Nat.le_refl _) (.cells #[.int .i64 t.kind, .bool t.neg, .slice pl t.limbs.length cl, .string t.str, .int .i64 t.num, .slice pk t.kids.length ck] 27)
    have b2 := b1.alloc (by simp) (.cells #[.pointer none, .slice none 0 0] 61)
    have b3 := b2.alloc (by simp; omega) (.cells #[.int .i64 t.kind, .bool t.neg, .slice pl t.limbs.length cl, .string t.str, .int .i64 t.num, .slice pk t.kids.length ck] 27)
    have u1 := Bt.new w t.kind t.neg (.slice pl t.limbs.length cl) t.str t.num (.slice pk t.kids.length ck) ⟨_, _, _, rfl⟩ ⟨_, _, _, rfl⟩
    have c2 := heap_alloc_new (w.alloc (.cells #[.int .i64 t.kind, .bool t.neg, .slice pl t.limbs.length cl, .string t.str, .int .i64 t.num, .slice pk t.kids.length ck] 27)) (.cells #[.pointer none, .slice none 0 0] 61)
    rw [World.size_alloc] at c2
    have o3 := World.ownsRow_lit (base := w.heap.size) (e := 27) (size := 6) ((w.alloc (.cells #[.int .i64 t.kind, .bool t.neg, .slice pl t.limbs.length cl, .string t.str, .int .i64 t.num, .slice pk t.kids.length ck] 27)).alloc (.cells #[.pointer none, .slice none 0 0] 61)) #[.int .i64 t.kind, .bool t.neg, .slice pl t.limbs.length cl, .string t.str, .int .i64 t.num, .slice pk t.kids.length ck] 1 b2.size (by decide) rfl
    rw [World.size_alloc, World.size_alloc] at o3
    refine ⟨w.heap.size + 1 + 1, 1, [], [(.agg #[.int .i64 t.kind, .bool t.neg, .slice pl t.limbs.length cl, .string t.str, .int .i64 t.num, .slice pk t.kids.length ck], t)], t.kind, t.neg, _, t.str, t.num, _, rfl, o3, ?_, by simp [stW], hw, by simp [stT], ?_, (u1.under ((Below.refl _ _).alloc (Nat.le_refl _) _)).under ((Below.refl _ _).alloc (Nat.le_refl _) _), b3, by omega⟩
    · intro p hp
      simp at hp
      rw [hp]
      exact ⟨h0, hs⟩
    · refine Or.inl ⟨by omega, .slice none 0 0, ?_, World.ownsRow_nil _ _ _ _, by simp [Value.ownBlock]⟩
      rw [Below.heap_alloc _ _ _ (by simp)]; exact c2
  have HL : Hid ((txt t).length ≤ 100000000) := hl
  clear hl hw hs h0 h hll hkk
  generalize ((w.alloc (.cells #[.int .i64 t.kind, .bool t.neg, .slice pl t.limbs.length cl, .string t.str, .int .i64 t.num, .slice pk t.kids.length ck] 27)).alloc (.cells #[.pointer none, .slice none 0 0] 61)).alloc (.cells #[.int .i64 t.kind, .bool t.neg, .slice pl t.limbs.length cl, .string t.str, .int .i64 t.num, .slice pk t.kids.length ck] 27) = wa at *
  go_loopg [4] (wt t) (fun gk s4 wr => TxRel w t gk s4 wr)
  case atStart => exact hst
  case round =>
    obtain ⟨g, cap, l, ps, kb, nb, slb, Sb, Nb, skb, rfl, hW, hI, hrem, hgk, htx, hB, hT, hbel, hgne⟩ := hrel
    clear hst
    have hrl := stW_len ps
    rcases snoc_or ps with rfl | ⟨qs, p, rfl⟩
    · have hle : l = txt t := by simpa [stT] using htx
      have HLE : Hid (l = txt t) := hle
      clear hle htx
      go_wp2_with fail
      refine (layBuilder_String_any w.heap.size (w.heap.size + 1) l _ hB (hbel.size)).mono ?_
      rintro e w1 ⟨rfl, b1⟩
      have hbF := hbel.trans b1
      clear b1
      go_wp2_with fail
      go_ret
      exact ⟨by rw [← HLE.out]; rfl, hbF⟩
    · obtain ⟨pv, pt⟩ := p
      obtain ⟨hpT, hpS⟩ := hI (pv, pt) (by simp)
      dsimp only at hpT hpS
      have hI' : ∀ p ∈ qs, IsT w p.2 p.1 ∧ spk p.2 := fun p hp => hI p (by simp [hp])
      have hlen : (qs ++ [(pv, pt)]).length = qs.length + 1 := by simp
      rw [hlen] at hW hrl ⊢
      obtain ⟨sl', sk', rfl, hl', hk', -, -, -⟩ := hpT.open
      obtain ⟨pl', cl', rfl⟩ := hl'.shape
      obtain ⟨pk', ck', rfl, hkc1, hkc2, -⟩ := hk'.shape
      simp only [tmV] at hpT hW
      obtain ⟨cur, hcg, hgB, -, hcap, hcapm⟩ := hW.row
      have hcap1 : (qs.length : Int) + 1 ≤ (cap : Int) := by omega
      have hcap2 : (cap : Int) ≤ 9223372036854775807 := by unfold maxLen at hcapm; omega
      have hq1 : (qs.length : Int) < (qs.length : Int) + 1 := by omega
      have hqi : (qs.length : Int) ≤ 1000000 := by omega
      have hget : ∀ j u, [Value.int .i64 pt.kind, .bool pt.neg, .slice pl' pt.limbs.length cl', .string pt.str, .int .i64 pt.num, .slice pk' pt.kids.length ck'][j]? = some u → wr.cell? ⟨g, qs.length * 6 + j, none⟩ = some u := fun j u hj => by
        have hj6 : j < 6 := by have := (List.getElem?_eq_some_iff.1 hj).1; simpa using this
        have hW' : wr.ownsRow w.heap.size 27 6 (.slice (some ⟨g, 0, none⟩) (qs.length + 1) cap) (qs.length + 1) (flat qs ++ [Value.int .i64 pt.kind, .bool pt.neg, .slice pl' pt.limbs.length cl', .string pt.str, .int .i64 pt.num, .slice pk' pt.kids.length ck']) := by
          have := hW; unfold WaitT at this; rw [List.length_append, flat_app] at this; exact this
        have hfl : (flat qs).length = qs.length * 6 := by have := hW'.1; simp at this; omega
        rw [hW'.cellAt (qs.length * 6 + j) (by omega), List.getElem?_append_right (by omega), show qs.length * 6 + j - (flat qs).length = j by omega]
        exact hj
      have r0 : wr.cell? ⟨g, qs.length * 6, none⟩ = some (.int .i64 pt.kind) := hget 0 _ rfl
      have r1 := hget 1 _ rfl
      have r2 := hget 2 _ rfl
      have r3 := hget 3 _ rfl
      have r4 := hget 4 _ rfl
      have r5 := hget 5 _ rfl
      have hWq : WaitT wr w.heap.size (.slice (some ⟨g, 0, none⟩) qs.length cap) qs := by
        have := hW; unfold WaitT at this; rw [List.length_append, flat_app] at this
        have hfl : (flat qs).length = qs.length * 6 := by
          have h1 := this.1
          rw [List.length_append] at h1
          have h2 : (flat [(Value.agg #[Value.int .i64 pt.kind, .bool pt.neg, .slice pl' pt.limbs.length cl', .string pt.str, .int .i64 pt.num, .slice pk' pt.kids.length ck'], pt)]).length = 6 := rfl
          simp only [List.length_cons, List.length_nil] at h1
          omega
        exact ownsRow_pop hfl this
      obtain ⟨a0, a1, a2, a3, a4, a5⟩ := hT.cells
      obtain ⟨f0, f1, f2, f3, f4, f5⟩ := hT.froz
      have hlt := hT.lt
      rw [stT_app] at htx
      rw [stW_app] at hrem
      simp only [stT, stW, List.nil_append, Nat.zero_add] at htx hrem
      have HTX : Hid (l ++ (txt pt ++ stT qs) = txt t) := htx
      clear htx hget hI hW
      go_wp2_with fail
      go_region
      have hset := setBt_but wr w.heap.size pt.kind pt.neg (.slice pl' pt.limbs.length cl') pt.str pt.num (.slice pk' pt.kids.length ck')
      have hT2 := hT.set pt.kind pt.neg (.slice pl' pt.limbs.length cl') pt.str pt.num (.slice pk' pt.kids.length ck') ⟨_, _, _, rfl⟩ ⟨_, _, _, rfl⟩
      have hB2 : Bld w.heap.size (w.heap.size + 1) l (setBt wr w.heap.size pt.kind pt.neg (.slice pl' pt.limbs.length cl') pt.str pt.num (.slice pk' pt.kids.length ck')) := hB.grown ⟨hset.os, hset.tape, hset.output, Nat.le_of_eq hset.size.symm, fun k _ hk => hset.block k (by simpa using hk)⟩ hT.1
      have hW2 : WaitT (setBt wr w.heap.size pt.kind pt.neg (.slice pl' pt.limbs.length cl') pt.str pt.num (.slice pk' pt.kids.length ck')) w.heap.size (.slice (some ⟨g, 0, none⟩) qs.length cap) qs := hWq.block (hset.block g hgne)
      have hbel2 : Below w.heap.size w (setBt wr w.heap.size pt.kind pt.neg (.slice pl' pt.limbs.length cl') pt.str pt.num (.slice pk' pt.kids.length ck')) := hbel.trans (hset.below (Nat.le_refl _))
      clear hT hB hWq hbel a0 a1 a2 a3 a4 a5 f0 f1 f2 f3 f4 f5 r0 r1 r2 r3 r4 r5 hset hlt hcg hcap hcapm
      obtain ⟨w2, hw2⟩ : ∃ x, x = (setBt wr w.heap.size pt.kind pt.neg (.slice pl' pt.limbs.length cl') pt.str pt.num (.slice pk' pt.kids.length ck')).drew := ⟨_, rfl⟩
      have bD : Below (setBt wr w.heap.size pt.kind pt.neg (.slice pl' pt.limbs.length cl') pt.str pt.num (.slice pk' pt.kids.length ck')).heap.size (setBt wr w.heap.size pt.kind pt.neg (.slice pl' pt.limbs.length cl') pt.str pt.num (.slice pk' pt.kids.length ck')) w2 := by rw [hw2]; exact (Below.refl _ _).drew
      have hT := hT2.under bD
      have hB := hB2.below bD
      have hWq : WaitT w2 w.heap.size (.slice (some ⟨g, 0, none⟩) qs.length cap) qs := hW2.block (bD.block g (by obtain ⟨_, h, -⟩ := hW2.row; exact (Array.getElem?_eq_some_iff.1 h).1))
      have hbel : Below w.heap.size w w2 := hbel2.trans (bD.mono hbel2.size)
      change Exit.then _ _ _ _ (setBt wr w.heap.size pt.kind pt.neg (.slice pl' pt.limbs.length cl') pt.str pt.num (.slice pk' pt.kids.length ck')).drew
      rw [← hw2]
      clear hw2 bD hT2 hB2 hW2 hbel2
      obtain ⟨a0, a1, a2, a3, a4, a5⟩ := hT.cells
      by_cases k4 : pt.kind = 4
      · skip
        have hwk := kids_wt pt (Or.inl k4)
        have HWT : Hid (∀ ys : List (Value × Tm), stW ys ≤ stW qs + wtL pt.kids + pt.kids.length + 2 → stW ys < gk) := fun ys h => by omega
        have HSP2 := spk_cons pt hpS k4
        have HSP : Hid (spkL pt.kids) := HSP2.2
        have hk2 : pt.kids.length = 2 := HSP2.1
        have HTT : Hid (txt pt = 91 :: (joinC 124 pt.kids ++ [93])) := by show txt pt = _; rw [joinC_124]; exact txt_cons pt k4
        have HWL : Hid (qs.length + 2 * pt.kids.length + 4 ≤ 1000000) := by show _ ≤ _; have := stW_len qs; omega
        have hTK : Ts w (.slice pk' 2 ck') pt.kids := by have := hk'; rwa [hk2] at this
        have hc2 : (2 : Int) ≤ (ck' : Int) := by omega
        clear HSP2 hwk
        go_wp2_with fail
        refine (ends_val _ _ _ _ _ _ _ _ _ _ hc2 hkc2).mono ?_
        rintro ed0 w3 ⟨rfl, b3⟩
        replace hB := hB.below b3
        replace hWq : WaitT w3 w.heap.size (.slice (some ⟨g, 0, none⟩) qs.length cap) qs := hWq.block (b3.block g (by obtain ⟨_, h, -⟩ := hWq.row; exact (Array.getElem?_eq_some_iff.1 h).1))
        replace hT := hT.under b3
        replace hbel := hbel.trans (b3.mono hbel.size)
        clear a0 a1 a2 a3 a4 a5 b3 hk2
        go_wp2_with fail
        refine (spell_any ⟨#[91]⟩ ⟨#[124]⟩ ⟨#[93]⟩ g cap _ qs pt.kids w _ hTK hbel hWq ?_).mono ?_
        · have := HWL.out; omega
        rintro ed w5 ⟨xs, g3, cap3, hcm, hxl, rfl, hW3, hgr, hg3⟩
        have hsp := sp_text pt.kids ⟨#[124]⟩ 124 rfl xs.length xs rfl hcm
        obtain ⟨cur2, hcg2, hgB2, -⟩ := hWq.row
        have hB3 := hB.grown hgr hcg2
        have hT3 : Bt w5 w.heap.size pt.kind pt.neg (.slice pl' pt.limbs.length cl') pt.str pt.num (.slice pk' pt.kids.length ck') := ⟨by rw [hgr.block _ hT.lt (fun e => by injection e with e; exact hgne e.symm)]; exact hT.1, hT.2⟩
        have hbel3 := hbel.grown hgr hbel.size (fun k e => by cases e; exact hgB2)
        obtain ⟨ys, hys⟩ : ∃ ys, ys = stk qs ⟨#[93]⟩ ⟨#[124]⟩ xs ++ [(mkV ⟨#[91]⟩, tmMark ⟨#[91]⟩)] := ⟨_, rfl⟩
        have HRES : Hid (TxRel w t (stW ys) (.slice (some ⟨g3, 0, none⟩) ys.length cap3) w5) := by
          rw [← hys] at hW3
          refine ⟨g3, cap3, l, ys, _, _, _, _, _, _, rfl, hW3, ?_, Nat.le_refl _, ?_, ?_, hB3, hT3, hbel3, ?_⟩
          · intro p hp
            rw [hys] at hp
            unfold stk at hp
            simp only [List.mem_append, List.mem_cons, List.not_mem_nil, or_false] at hp
            rcases hp with ((hp | rfl) | hp) | rfl
            · exact hI' p hp
            · exact ⟨mark_is _ _ (by decide), spk_mark _⟩
            · rcases hsp.2.2 p hp with ⟨y, hy1, hy2, hy3⟩ | rfl
              · rw [hy2]; exact ⟨hy3, spkL_mem HSP.out hy1⟩
              · exact ⟨mark_is _ _ (by decide), spk_mark _⟩
            · exact ⟨mark_is _ _ (by decide), spk_mark _⟩
          · have := HWT.out ys (by rw [hys, stW_app]; unfold stk; rw [stW_app, stW_app]; have := hsp.2.1; rw [hxl] at this; simp only [Nat.sub_self, List.drop_zero] at this; simp only [stW, wt_mark]; omega)
            omega
          · rw [hys, stT_app]
            unfold stk
            rw [stT_app, stT_app, hsp.1, if_pos hxl]
            simp only [stT, txt_mark, List.nil_append]
            rw [← HTX.out, HTT.out]
            simp
          · rcases hg3 with rfl | h
            · exact hgne
            · have := hT.lt; omega
        have HDEC : Hid (stW ys < gk) := HWT.out ys (by rw [hys, stW_app]; unfold stk; rw [stW_app, stW_app]; have := hsp.2.1; rw [hxl] at this; simp only [Nat.sub_self, List.drop_zero] at this; simp only [stW, wt_mark]; omega)
        rw [← hys]
        clear hW3 hgr hg3 hsp hB3 hT3 hbel3 hcm hxl hys hcg2
        go_wp2_with fail
        go_roundg (stW ys)
        case measure => exact HDEC.out
        case rel => exact HRES.out
      · by_cases k5 : pt.kind = 5
        · skip
          have hwk := kids_wt pt (Or.inr k5)
          have HWT : Hid (∀ ys : List (Value × Tm), stW ys ≤ stW qs + wtL pt.kids + pt.kids.length + 2 → stW ys < gk) := fun ys h => by omega
          have HSP : Hid (spkL pt.kids) := spk_tup pt hpS k5
          have HTT : Hid (txt pt = 123 :: (joinC 44 pt.kids ++ [125])) := by show txt pt = _; rw [joinC_44]; exact txt_tup pt k5
          have HWL : Hid (qs.length + 2 * pt.kids.length + 4 ≤ 1000000) := by show _ ≤ _; have := stW_len qs; omega
          have hTK : Ts w (.slice pk' pt.kids.length ck') pt.kids := hk'
          clear hwk
          go_wp2_with fail
          clear a0 a1 a2 a3 a4 a5
          refine (spell_any ⟨#[123]⟩ ⟨#[44]⟩ ⟨#[125]⟩ g cap _ qs pt.kids w _ hTK hbel hWq ?_).mono ?_
          · have := HWL.out; omega
          rintro ed w3 ⟨xs, g3, cap3, hcm, hxl, rfl, hW3, hgr, hg3⟩
          have hsp := sp_text pt.kids ⟨#[44]⟩ 44 rfl xs.length xs rfl hcm
          obtain ⟨cur2, hcg2, hgB2, -⟩ := hWq.row
          have hB3 := hB.grown hgr hcg2
          have hT3 : Bt w3 w.heap.size pt.kind pt.neg (.slice pl' pt.limbs.length cl') pt.str pt.num (.slice pk' pt.kids.length ck') := ⟨by rw [hgr.block _ hT.lt (fun e => by injection e with e; exact hgne e.symm)]; exact hT.1, hT.2⟩
          have hbel3 := hbel.grown hgr hbel.size (fun k e => by cases e; exact hgB2)
          obtain ⟨ys, hys⟩ : ∃ ys, ys = stk qs ⟨#[125]⟩ ⟨#[44]⟩ xs ++ [(mkV ⟨#[123]⟩, tmMark ⟨#[123]⟩)] := ⟨_, rfl⟩
          have HRES : Hid (TxRel w t (stW ys) (.slice (some ⟨g3, 0, none⟩) ys.length cap3) w3) := by
            rw [← hys] at hW3
            refine ⟨g3, cap3, l, ys, _, _, _, _, _, _, rfl, hW3, ?_, Nat.le_refl _, ?_, ?_, hB3, hT3, hbel3, ?_⟩
            · intro p hp
              rw [hys] at hp
              unfold stk at hp
              simp only [List.mem_append, List.mem_cons, List.not_mem_nil, or_false] at hp
              rcases hp with ((hp | rfl) | hp) | rfl
              · exact hI' p hp
              · exact ⟨mark_is _ _ (by decide), spk_mark _⟩
              · rcases hsp.2.2 p hp with ⟨y, hy1, hy2, hy3⟩ | rfl
                · rw [hy2]; exact ⟨hy3, spkL_mem HSP.out hy1⟩
                · exact ⟨mark_is _ _ (by decide), spk_mark _⟩
              · exact ⟨mark_is _ _ (by decide), spk_mark _⟩
            · have := HWT.out ys (by rw [hys, stW_app]; unfold stk; rw [stW_app, stW_app]; have := hsp.2.1; rw [hxl] at this; simp only [Nat.sub_self, List.drop_zero] at this; simp only [stW, wt_mark]; omega)
              omega
            · rw [hys, stT_app]
              unfold stk
              rw [stT_app, stT_app, hsp.1, if_pos hxl]
              simp only [stT, txt_mark, List.nil_append]
              rw [← HTX.out, HTT.out]
              simp
            · rcases hg3 with rfl | h
              · exact hgne
              · have := hT.lt; omega
          have HDEC : Hid (stW ys < gk) := HWT.out ys (by rw [hys, stW_app]; unfold stk; rw [stW_app, stW_app]; have := hsp.2.1; rw [hxl] at this; simp only [Nat.sub_self, List.drop_zero] at this; simp only [stW, wt_mark]; omega)
          rw [← hys]
          clear hW3 hgr hg3 hsp hB3 hT3 hbel3 hcm hxl hys hcg2
          go_wp2_with fail
          go_roundg (stW ys)
          case measure => exact HDEC.out
          case rel => exact HRES.out
        · have hk123 := spk_own pt hpS k4 k5
          have HTT : Hid (txt pt = (ownT pt).data.toList) := txt_own pt k4 k5
          go_wp2_with fail
          refine (ownText_any pt _ _ (hpT.under hbel) hk123).mono ?_
          rintro e w3 ⟨rfl, b3⟩
          have hB3 := hB.below b3
          have hWq3 : WaitT w3 w.heap.size (.slice (some ⟨g, 0, none⟩) qs.length cap) qs := hWq.block (b3.block g (by obtain ⟨_, h, -⟩ := hWq.row; exact (Array.getElem?_eq_some_iff.1 h).1))
          have hT3 := hT.under b3
          have hbel3 := hbel.trans (b3.mono hbel.size)
          clear a0 a1 a2 a3 a4 a5 b3 hB hWq hT hbel
          have hlen2 : l.length + (ownT pt).size ≤ 100000000 := by
            have h1 := congrArg List.length HTX.out
            rw [HTT.out] at h1
            simp only [List.length_append] at h1
            have h2 := HL.out
            have h3 := Lib.size_eq (ownT pt)
            omega
          go_wp2_with fail
          refine (write_any w.heap.size (w.heap.size + 1) l (ownT pt) _ hB3 (by omega) hbel3.size).mono ?_
          rintro e w4 ⟨rfl, hB4, b4, hk4⟩
          obtain ⟨cur4, hcg4, -⟩ := hWq3.row
          have hWq4 : WaitT w4 w.heap.size (.slice (some ⟨g, 0, none⟩) qs.length cap) qs := hWq3.block (by
            rw [hcg4]
            refine hk4 g _ hcg4 ?_ (fun c fz e => ?_)
            · intro e
              injection e with e
              obtain ⟨c, hb⟩ := hB3.block
              rw [← e, hcg4] at hb
              simp at hb
            · simp at e)
          have hT4 : Bt w4 w.heap.size pt.kind pt.neg (.slice pl' pt.limbs.length cl') pt.str pt.num (.slice pk' pt.kids.length ck') := ⟨hk4 w.heap.size _ hT3.1 (by simp) (fun c fz e => by simp at e), hT3.2⟩
          have HRES : Hid (TxRel w t (stW qs) (.slice (some ⟨g, 0, none⟩) qs.length cap) w4) :=
            ⟨g, cap, l ++ (ownT pt).data.toList, qs, _, _, _, _, _, _, rfl, hWq4, hI', Nat.le_refl _, by omega, by rw [← HTX.out, HTT.out]; simp, hB4, hT4, hbel3.trans b4, hgne⟩
          have hwp := wt_pos pt
          clear hB4 b4 hk4 hWq4 hT4 hcg4
          go_wp2_with fail
          go_roundg (stW qs)
          case measure => omega
          case rel => exact HRES.out
end Go.Proofs.YtfcdocgjmgpmkaaDoor
