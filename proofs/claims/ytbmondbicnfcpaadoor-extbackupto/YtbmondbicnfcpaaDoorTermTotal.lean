/-
  term.total: a sum over a tree.
-/
import Derived.Test.YtbmondbicnfcpaaDoorZTermA
import Derived.Maps.AppendAt
import Derived.Laws.OwnMore
namespace Go.Proofs.YtbmondbicnfcpaaDoor
open Go.RowKit
set_option linter.unusedVariables false
set_option linter.unusedSimpArgs false

def addL : List Int → Int
  | [] => 0
  | x :: r => x + addL r
def Tm.sum (f : Tm → Int) : Tm → Int := Tm.fold (fun t Ks => f t + addL Ks)
def sumL (f : Tm → Int) : List Tm → Int
  | [] => 0
  | t :: r => Tm.sum f t + sumL f r
theorem addL_map (f : Tm → Int) : ∀ l : List Tm, addL (l.map (Tm.sum f)) = sumL f l
  | [] => rfl
  | t :: r => by simp only [List.map_cons, addL, sumL, addL_map f r]
theorem Tm.sum_mk (f : Tm → Int) (k : Int) (n : Bool) (L : List Int) (S : ByteArray) (N : Int) (K : List Tm) : Tm.sum f (.mk k n L S N K) = f (.mk k n L S N K) + sumL f K := by
  rw [← addL_map]
  unfold Tm.sum
  rw [Tm.fold_mk]
def nsumL : List Nat → Nat
  | [] => 0
  | x :: r => x + nsumL r
def Tm.nodes : Tm → Nat := Tm.fold (fun _ Ks => nsumL Ks + 1)
def nodesL : List Tm → Nat
  | [] => 0
  | t :: r => Tm.nodes t + nodesL r
theorem nsumL_map : ∀ l : List Tm, nsumL (l.map Tm.nodes) = nodesL l
  | [] => rfl
  | t :: r => by simp only [List.map_cons, nsumL, nodesL, nsumL_map r]
theorem Tm.nodes_mk (k : Int) (n : Bool) (L : List Int) (S : ByteArray) (N : Int) (K : List Tm) : Tm.nodes (.mk k n L S N K) = nodesL K + 1 := by
  rw [← nsumL_map]
  unfold Tm.nodes
  rw [Tm.fold_mk]
theorem Tm.sum_eq (f : Tm → Int) (t : Tm) : t.sum f = f t + sumL f t.kids := by cases t; simp [Tm.sum_mk, Tm.kids]
theorem Tm.nodes_eq (t : Tm) : t.nodes = nodesL t.kids + 1 := by cases t; simp [Tm.nodes_mk, Tm.kids]
theorem sumL_app (f : Tm → Int) (a b : List Tm) : sumL f (a ++ b) = sumL f a + sumL f b := by
  induction a with
  | nil => simp [sumL]
  | cons x r ih => simp [sumL, ih]; omega
theorem nodesL_app (a b : List Tm) : nodesL (a ++ b) = nodesL a + nodesL b := by
  induction a with
  | nil => simp [nodesL]
  | cons x r ih => simp [nodesL, ih]; omega
theorem sumL_nn (f : Tm → Int) : ∀ l : List Tm, (∀ t, t ∈ l → 0 ≤ t.sum f) → 0 ≤ sumL f l
  | [], _ => by simp [sumL]
  | t :: r, h => by
    have h1 := h t (by simp)
    have h2 := sumL_nn f r (fun x hx => h x (by simp [hx]))
    simp only [sumL]; omega
theorem Tm.sum_nonneg (f : Tm → Int) (h : ∀ t, 0 ≤ f t) : ∀ t : Tm, 0 ≤ t.sum f :=
  Tm.ind (fun k n L S N K ih => by
    have h1 := h (.mk k n L S N K)
    have h2 := sumL_nn f K ih
    rw [Tm.sum_mk]; omega)
theorem sumL_nonneg (f : Tm → Int) (h : ∀ t, 0 ≤ f t) (l : List Tm) : 0 ≤ sumL f l := sumL_nn f l (fun t _ => Tm.sum_nonneg f h t)
theorem sumL_drop (f : Tm → Int) (K : List Tm) (i : Nat) (h : i < K.length) : sumL f (K.drop i) = f K[i] + sumL f K[i].kids + sumL f (K.drop (i + 1)) := by
  rw [List.drop_eq_getElem_cons h]
  simp only [sumL]
  rw [Tm.sum_eq]
theorem nodesL_drop (K : List Tm) (i : Nat) (h : i < K.length) : nodesL (K.drop i) = nodesL K[i].kids + 1 + nodesL (K.drop (i + 1)) := by
  rw [List.drop_eq_getElem_cons h]
  simp only [nodesL]
  rw [Tm.nodes_eq]

/-- What waits: slices, and the lists that they read as. -/
def stSum (f : Tm → Int) : List (Value × List Tm) → Int
  | [] => 0
  | p :: r => sumL f p.2 + stSum f r
def stRem : List (Value × List Tm) → Nat
  | [] => 0
  | p :: r => (nodesL p.2 + 1) + stRem r
theorem stSum_app (f : Tm → Int) (a b : List (Value × List Tm)) : stSum f (a ++ b) = stSum f a + stSum f b := by
  induction a with
  | nil => simp [stSum]
  | cons x r ih => simp [stSum, ih]; omega
theorem stRem_app (a b : List (Value × List Tm)) : stRem (a ++ b) = stRem a + stRem b := by
  induction a with
  | nil => simp [stRem]
  | cons x r ih => simp [stRem, ih]; omega
theorem stSum_nonneg (f : Tm → Int) (h : ∀ t, 0 ≤ f t) (a : List (Value × List Tm)) : 0 ≤ stSum f a := by
  induction a with
  | nil => simp [stSum]
  | cons x r ih => have := sumL_nonneg f h x.2; simp [stSum]; omega
theorem stRem_len (a : List (Value × List Tm)) : a.length ≤ stRem a := by
  induction a with
  | nil => simp
  | cons x r ih => simp [stRem]; omega

/-- The row of what waits. -/
def Wait (w : World) (base : Nat) (v : Value) (ps : List (Value × List Tm)) : Prop := w.ownsRow base 27 1 v ps.length (ps.map Prod.fst)

theorem snoc_or {α : Type} (l : List α) : l = [] ∨ ∃ q p, l = q ++ [p] := by
  rcases List.eq_nil_or_concat l with h | ⟨q, p, h⟩
  · exact Or.inl h
  · exact Or.inr ⟨q, p, by rw [h, List.concat_eq_append]⟩
theorem Wait.top {w : World} {base : Nat} {v : Value} {qs : List (Value × List Tm)} {p : Value × List Tm} (h : Wait w base v (qs ++ [p])) :
    ∃ g cap, v = .slice (some ⟨g, 0, none⟩) (qs.length + 1) cap ∧ base ≤ g ∧ g < w.heap.size ∧ qs.length + 1 ≤ cap ∧ (cap : Int) ≤ 9223372036854775807 ∧ w.cell? ⟨g, qs.length, none⟩ = some p.1 ∧ Wait w base (.slice (some ⟨g, 0, none⟩) qs.length cap) qs := by
  have h' := h
  rcases h.2 with ⟨_, h1⟩ | ⟨g, cap, cur, rfl, hb, hh, hn, hc, _, _⟩
  · simp at h1
  · have hl : (qs ++ [p]).length = qs.length + 1 := by simp
    unfold Wait at h'
    rw [hl] at h' hn ⊢
    refine ⟨g, cap, rfl, hb, (Array.getElem?_eq_some_iff.1 hh).1, hn, by unfold maxLen at hc; omega, ?_, ?_⟩
    · rw [h'.cellAt qs.length (by omega)]
      simp
    · refine ownsRow_pop (last := [p.1]) (by simp) ?_
      simpa using h'
theorem Wait.none {w : World} {base : Nat} {v : Value} (h : Wait w base v []) : ∃ a cap, v = .slice a 0 cap ∧ (cap : Int) ≤ 9223372036854775807 := by
  rcases h.2 with ⟨h1, _⟩ | ⟨g, cap, cur, rfl, hb, hh, hn, hc, _, _⟩
  · exact ⟨_, _, h1, by decide⟩
  · exact ⟨_, _, rfl, by unfold maxLen at hc; omega⟩
theorem Wait.below {w w' : World} {base : Nat} {v : Value} {ps : List (Value × List Tm)} (h : Wait w base v ps) (hb : Below w.heap.size w w') : Wait w' base v ps :=
  World.ownsRow.kept (row := Option.none) h ⟨hb.os, hb.tape, hb.output, hb.size, fun k hk _ => hb.block k hk⟩ (by cases v.ownBlock <;> simp)

def TotOut (w : World) (f : Tm → Int) (S : Int) (gk : Nat) (ss sr : Value) (wr : World) : Prop :=
  ∃ c ps, ss = .int .i64 c ∧ 0 ≤ c ∧ Wait wr w.heap.size sr ps ∧ (∀ p ∈ ps, Ts w p.1 p.2) ∧ stRem ps ≤ gk ∧ gk ≤ 1000000 ∧ c + stSum f ps = S ∧ Below w.heap.size w wr

def TotIn (w : World) (f : Tm → Int) (S : Int) (K : List Tm) (gk q : Nat) (ss sr si : Value) (wr : World) : Prop :=
  ∃ i c ps, i + q = K.length ∧ si = .int .i64 (i : Int) ∧ ss = .int .i64 c ∧ 0 ≤ c ∧ Wait wr w.heap.size sr ps ∧ (∀ p ∈ ps, Ts w p.1 p.2) ∧ stRem ps + nodesL (K.drop i) + 1 ≤ gk ∧ c + stSum f ps + sumL f (K.drop i) = S ∧ Below w.heap.size w wr

theorem one_any (t : Tm) (v : Value) (w : World) (h : IsT w t v) : Calls Tryd.prog 63 #[v] w fun e w' => e = .returned (.int .i64 1) ∧ Below w.heap.size w w' := by
  obtain ⟨sl, sk, rfl, hl, hk, -, -, -⟩ := h.open
  obtain ⟨pl, cl, rfl⟩ := hl.shape
  obtain ⟨pk, ck, rfl, -⟩ := hk.shape
  simp only [tmV]
  go_enter Tryd.func63, Tryd.ntmps63
  go_wp2_with fail
  go_ret
  exact ⟨rfl, (Below.refl _ _).alloc (Nat.le_refl _) _⟩

theorem Tryd.infoTs : (Tryd.prog.info? 27).map (fun i => (i.zero, i.size, i.bytes)) = some (some (.slice none 0 0), 1, 24) := by kernel_rfl

set_option maxRecDepth 100000 in
set_option maxHeartbeats 4000000 in
theorem totalN_any (f : Tm → Int) (hf0 : ∀ t, 0 ≤ f t) (hf : Hid (∀ (t : Tm) (v : Value) (w : World), IsT w t v → t.nodes ≤ 1000000 → Calls Tryd.prog 63 #[v] w fun e w' => e = .returned (.int .i64 (f t)) ∧ Below w.heap.size w w'))
    (t : Tm) (v : Value) (w : World) (h : IsT w t v) (hs : t.sum f ≤ 4611686018427387904) (hn : t.nodes ≤ 1000000) :
    Calls Tryd.prog 61 #[v, .func (.func 63) #[] #[]] w fun e w' => e = .returned (.int .i64 (t.sum f)) ∧ Below w.heap.size w w' := by
  obtain ⟨ti, hi, hz0, hz1, hz2⟩ := info_parts Tryd.infoTs
  have h0 := h
  obtain ⟨sl, sk, rfl, hl, hk, -, -, -⟩ := h.open
  obtain ⟨pl, cl, rfl⟩ := hl.shape
  obtain ⟨pk, ck, rfl, -⟩ := hk.shape
  simp only [tmV] at *
  have hb1 := (Below.refl w.heap.size w).alloc (Nat.le_refl _) (.cells #[.int .i64 t.kind, .bool t.neg, .slice pl t.limbs.length cl, .string t.str, .int .i64 t.num, .slice pk t.kids.length ck] 29)
  have u1 := Bt.new w t.kind t.neg (.slice pl t.limbs.length cl) t.str t.num (.slice pk t.kids.length ck) ⟨_, _, _, rfl⟩ ⟨_, _, _, rfl⟩
  have h1 := h0.under hb1
  go_enter Tryd.func61, Tryd.ntmps61
  go_wp2_with fail
  refine (hf.out t _ _ h1 hn).mono ?_
  rintro e w1 ⟨rfl, b1⟩
  replace u1 := u1.under b1
  replace hb1 := hb1.trans (b1.mono hb1.size)
  clear b1 h1 h0 h
  obtain ⟨c0, c1, c2, c3, c4, c5⟩ := u1.cells
  go_wp2_with fail
  have hst : TotOut w f (t.sum f) (nodesL t.kids + 1) (.int .i64 (f t)) (.slice (some ⟨w1.heap.size, 0, none⟩) 1 1) (w1.alloc (.cells #[.slice pk t.kids.length ck] 27)) := by
    refine ⟨f t, [(.slice pk t.kids.length ck, t.kids)], rfl, hf0 t, ?_, ?_, ?_, ?_, ?_, ?_⟩
    · exact World.ownsRow_lit w1 #[.slice pk t.kids.length ck] 1 hb1.size (by decide) rfl
    · intro p hp
      simp at hp
      rw [hp]; exact hk
    · simp [stRem]
    · rw [Tm.nodes_eq] at hn; exact hn
    · simp [stSum, Tm.sum_eq]
    · exact hb1.alloc hb1.size _
  have HF0 : Hid (∀ t, 0 ≤ f t) := hf0
  have HS : Hid (t.sum f ≤ 4611686018427387904) := hs
  clear hf0 hs c0 c1 c2 c3 c4 c5 hb1 u1
  obtain ⟨SS, hSS⟩ : ∃ SS, t.sum f = SS := ⟨_, rfl⟩
  have HSS : Hid (t.sum f = SS) := hSS
  rw [hSS] at hst HS
  clear hSS
  go_loopg [5, 6] (nodesL t.kids + 1) (fun gk ss sr wr => TotOut w f SS gk ss sr wr)
  case atStart => exact hst
  case round =>
    obtain ⟨c, ps, rfl, hc0, hW, hT, hrem, hgk, hsum, hB⟩ := hrel
    clear hst
    rcases snoc_or ps with rfl | ⟨qs, p, rfl⟩
    · obtain ⟨a, cap, rfl, hcap⟩ := hW.none
      have hcS : c = SS := by simpa [stSum] using hsum
      subst hcS
      clear hsum
      go_wp2_with fail
      go_ret
      exact ⟨by rw [HSS.out]; rfl, hB⟩
    · obtain ⟨g, cap, rfl, hg1, hg2, hcap1, hcap2, hcell, hW'⟩ := hW.top
      obtain ⟨pv, K⟩ := p
      have hp : Ts w pv K := hT (pv, K) (by simp)
      have hT' : ∀ p ∈ qs, Ts w p.1 p.2 := fun p h => hT p (by simp [h])
      obtain ⟨pa, pc, rfl, hpc1, hpc2, hpn⟩ := hp.shape
      clear hT hW
      rw [stSum_app] at hsum
      rw [stRem_app] at hrem
      simp only [stSum, stRem, Int.add_zero, Nat.add_zero] at hsum hrem
      have hql := stRem_len qs
      have HSUM : Hid (c + (stSum f qs + sumL f K) = SS) := hsum
      clear hsum
      have hqi : (qs.length : Int) ≤ 1000000 := by omega
      go_wp2_with fail
      obtain ⟨G, hG⟩ : ∃ G, gk = G := ⟨_, rfl⟩
      have HG : Hid (gk = G) := hG
      rw [hG] at hrem hgk
      clear hG
      go_loopg [5, 6, 32] K.length (fun q ss sr si wy => TotIn w f SS K G q ss sr si wy)
      case atStart => exact ⟨0, c, qs, by omega, rfl, rfl, hc0, hW', hT', by simp; omega, by have := HSUM.out; simp; omega, hB⟩
      case round =>
        clear hcell hW' hT' hrem hB hc0 hql hqi HSUM
        obtain ⟨i, c, ps, hiq, rfl, rfl, hc0, hW, hT, hrem, hsum, hB⟩ := hrel
        cases gk with
        | zero =>
          obtain rfl : i = K.length := by omega
          rw [List.drop_length] at hrem hsum
          have HSUM : Hid (c + stSum f ps = SS) := by show c + stSum f ps = SS; simpa [sumL] using hsum
          simp only [nodesL] at hrem
          clear hsum
          go_wp2_with fail
          go_roundg (G - 1)
          case measure => have := HG.out; omega
          case rel => exact ⟨c, ps, rfl, hc0, hW, hT, by omega, by omega, HSUM.out, hB⟩
        | succ q =>
          have hik : i < K.length := by omega
          have hiki : (i : Int) < (K.length : Int) := by omega
          rw [sumL_drop f K i hik] at hsum
          rw [nodesL_drop K i hik] at hrem
          have HKN : Hid (K[i].nodes ≤ 1000000) := by
            show K[i].nodes ≤ 1000000
            rw [Tm.nodes_eq]; omega
          have hpw := hp.under hB
          obtain ⟨b, off, v, rfl, hlt, h6, hv⟩ := hpw.at i hik
          have hv0 := hv
          obtain ⟨e0, e1, e2, e3, e4, e5, hve, a0, a1, a2, a3, a4, a5⟩ := h6
          obtain ⟨sl', sk', hv', hl', hk', -, -, -⟩ := hv.open
          obtain ⟨pl', cl', rfl⟩ := hl'.shape
          obtain ⟨pk', ck', rfl, hkc1, hkc2, -⟩ := hk'.shape
          rw [hv'] at hve hv0
          simp only [tmV, Value.agg.injEq, List.toArray_inj, List.cons.injEq, and_true] at hve hv0
          obtain ⟨rfl, rfl, rfl, rfl, rfl, rfl⟩ := hve
          clear hv hv' v
          obtain ⟨fi, hfi⟩ : ∃ fi, f K[i] = fi := ⟨_, rfl⟩
          have HFI : Hid (f K[i] = fi) := hfi
          have hf1 := HF0.out K[i]
          have hs2 := stSum_nonneg f HF0.out ps
          have hs3 := sumL_nonneg f HF0.out K[i].kids
          have hs4 := sumL_nonneg f HF0.out (K.drop (i + 1))
          rw [hfi] at hf1 hsum
          have hcf : c + fi ≤ 4611686018427387904 := by have := HS.out; omega
          have HSUM : Hid (c + stSum f ps + (fi + sumL f K[i].kids + sumL f (K.drop (i + 1))) = SS) := hsum
          clear hsum hfi hs2 hs3 hs4
          have hkw := (hp.at i hik)
          obtain ⟨_, _, vx, hx1, -, hx2, hx3⟩ := hkw
          have HKW : Hid (Ts w (.slice pk' K[i].kids.length ck') K[i].kids) := by
            obtain ⟨sl9, sk9, hv9, -, hk9, -⟩ := hx3.open
            obtain ⟨d0, d1, d2, d3, d4, d5, hd, -, -, -, -, -, q5⟩ := hx2
            simp only [Option.some.injEq, Addr.mk.injEq, and_true] at hx1
            obtain ⟨rfl, rfl⟩ := hx1
            rw [hv9] at hd
            simp only [tmV, Value.agg.injEq, List.toArray_inj, List.cons.injEq, and_true] at hd
            have h5 := hB.cell (p := ⟨_, off + i * 6 + 5, none⟩) (World.block_lt_of_cell? w _ q5)
            rw [a5, q5] at h5
            injection h5 with h5
            obtain ⟨rfl, rfl, rfl, rfl, rfl, rfl⟩ := hd
            rw [h5]
            exact hk9
          clear hx1 hx2 hx3 vx
          have hbk := (Below.refl wr.heap.size wr).alloc (Nat.le_refl _) (.cells #[.int .i64 K[i].kind, .bool K[i].neg, .slice pl' K[i].limbs.length cl', .string K[i].str, .int .i64 K[i].num, .slice pk' K[i].kids.length ck'] 29)
          have ub := Bt.new wr K[i].kind K[i].neg (.slice pl' K[i].limbs.length cl') K[i].str K[i].num (.slice pk' K[i].kids.length ck') ⟨_, _, _, rfl⟩ ⟨_, _, _, rfl⟩
          go_wp2_with fail
          refine (hf.out K[i] _ _ (hv0.under hbk) HKN.out).mono ?_
          rw [HFI.out]
          rintro e w2 ⟨rfl, b2⟩
          replace ub := ub.under b2
          have b22 := hbk.trans (b2.mono hbk.size)
          replace hW := hW.below b22
          replace hB := hB.trans (b22.mono hB.size)
          clear hbk b2 b22 a0 a1 a2 a3 a4 a5 hv0 hl' hk' hpw
          obtain ⟨a0, a1, a2, a3, a4, a5⟩ := ub.cells
          have hremL := stRem_len ps
          by_cases h0 : K[i].kids.length = 0
          · have h0' : ¬ ((0 : Int) < (K[i].kids.length : Int)) := by omega
            have hkn : K[i].kids = [] := List.eq_nil_of_length_eq_zero h0
            have HF : Hid (c + fi + stSum f ps + sumL f (K.drop (i + 1)) = SS) := by
              have := HSUM.out
              rw [hkn] at this
              simp only [sumL] at this
              show _ = _
              omega
            clear h0 hkn HSUM
            go_wp2_with fail
            go_roundg q
            case measure => omega
            case rel => exact ⟨i + 1, c + fi, ps, by omega, by go_num, rfl, by omega, hW, hT, by omega, HF.out, hB⟩
          · have h0' : (0 : Int) < (K[i].kids.length : Int) := by omega
            go_wp2_with (first | (at_builtin; refine wpList_append_own_at _ rfl _ _ 129 rfl w.heap.size 27 ti (.slice none 0 0) 1 24 Tryd.underlying129 hi hz0 hz1 hz2 rfl (by decide) u6 ps.length (ps.map Prod.fst) rfl (World.ownsRow.alloc hW _) ⟨w2.heap.size, 0, none⟩ 1 1 [.slice pk' K[i].kids.length ck'] rfl rfl (cell_one_new _ _ _) (fun u hu => by simp at hu; subst hu; rfl) (by simp only [maxLen]; omega) (by omega) (by have := hB.size; simp; omega) ?_; intro v5 w5 hown5 hgr5 hnil5 hloc5) | fail)
            have HF : Hid (c + fi + stSum f (ps ++ [(.slice pk' K[i].kids.length ck', K[i].kids)]) + sumL f (K.drop (i + 1)) = SS) := by
              have := HSUM.out
              show _ = _
              rw [stSum_app]
              simp only [stSum]
              omega
            have hgr0 : ∀ k, u6.ownBlock = some k → w.heap.size ≤ k := fun k hk => (World.ownsRow.lt hW k hk).1
            have hB5 : Below w.heap.size w w5 := (hB.alloc hB.size _).grown hgr5 (by have := hB.size; simp; omega) hgr0
            have hW5 : Wait w5 w.heap.size v5 (ps ++ [(.slice pk' K[i].kids.length ck', K[i].kids)]) := by
              unfold Wait
              simpa using hown5
            clear hown5 hgr5 hnil5 hloc5 HSUM
            go_roundg q
            case measure => omega
            case rel =>
              refine ⟨i + 1, c + fi, _, by omega, by go_num, rfl, by omega, hW5, ?_, ?_, HF.out, hB5⟩
              · intro p hpm
                rcases List.mem_append.1 hpm with h | h
                · exact hT p h
                · simp at h
                  rw [h]
                  exact HKW.out
              · rw [stRem_app]
                simp only [stRem]
                omega
set_option maxRecDepth 100000 in
set_option maxHeartbeats 4000000 in
theorem totalW_any (f : Tm → Int) (hf0 : ∀ t, 0 ≤ f t) (hf : Hid (∀ (t : Tm) (v : Value) (w : World), IsT w t v → t.nodes ≤ 1000000 → Calls Tryd.prog 62 #[v] w fun e w' => e = .returned (.int .i64 (f t)) ∧ Below w.heap.size w w'))
    (t : Tm) (v : Value) (w : World) (h : IsT w t v) (hs : t.sum f ≤ 4611686018427387904) (hn : t.nodes ≤ 1000000) :
    Calls Tryd.prog 61 #[v, .func (.func 62) #[] #[]] w fun e w' => e = .returned (.int .i64 (t.sum f)) ∧ Below w.heap.size w w' := by
  obtain ⟨ti, hi, hz0, hz1, hz2⟩ := info_parts Tryd.infoTs
  have h0 := h
  obtain ⟨sl, sk, rfl, hl, hk, -, -, -⟩ := h.open
  obtain ⟨pl, cl, rfl⟩ := hl.shape
  obtain ⟨pk, ck, rfl, -⟩ := hk.shape
  simp only [tmV] at *
  have hb1 := (Below.refl w.heap.size w).alloc (Nat.le_refl _) (.cells #[.int .i64 t.kind, .bool t.neg, .slice pl t.limbs.length cl, .string t.str, .int .i64 t.num, .slice pk t.kids.length ck] 29)
  have u1 := Bt.new w t.kind t.neg (.slice pl t.limbs.length cl) t.str t.num (.slice pk t.kids.length ck) ⟨_, _, _, rfl⟩ ⟨_, _, _, rfl⟩
  have h1 := h0.under hb1
  go_enter Tryd.func61, Tryd.ntmps61
  go_wp2_with fail
  refine (hf.out t _ _ h1 hn).mono ?_
  rintro e w1 ⟨rfl, b1⟩
  replace u1 := u1.under b1
  replace hb1 := hb1.trans (b1.mono hb1.size)
  clear b1 h1 h0 h
  obtain ⟨c0, c1, c2, c3, c4, c5⟩ := u1.cells
  go_wp2_with fail
  have hst : TotOut w f (t.sum f) (nodesL t.kids + 1) (.int .i64 (f t)) (.slice (some ⟨w1.heap.size, 0, none⟩) 1 1) (w1.alloc (.cells #[.slice pk t.kids.length ck] 27)) := by
    refine ⟨f t, [(.slice pk t.kids.length ck, t.kids)], rfl, hf0 t, ?_, ?_, ?_, ?_, ?_, ?_⟩
    · exact World.ownsRow_lit w1 #[.slice pk t.kids.length ck] 1 hb1.size (by decide) rfl
    · intro p hp
      simp at hp
      rw [hp]; exact hk
    · simp [stRem]
    · rw [Tm.nodes_eq] at hn; exact hn
    · simp [stSum, Tm.sum_eq]
    · exact hb1.alloc hb1.size _
  have HF0 : Hid (∀ t, 0 ≤ f t) := hf0
  have HS : Hid (t.sum f ≤ 4611686018427387904) := hs
  clear hf0 hs c0 c1 c2 c3 c4 c5 hb1 u1
  obtain ⟨SS, hSS⟩ : ∃ SS, t.sum f = SS := ⟨_, rfl⟩
  have HSS : Hid (t.sum f = SS) := hSS
  rw [hSS] at hst HS
  clear hSS
  go_loopg [5, 6] (nodesL t.kids + 1) (fun gk ss sr wr => TotOut w f SS gk ss sr wr)
  case atStart => exact hst
  case round =>
    obtain ⟨c, ps, rfl, hc0, hW, hT, hrem, hgk, hsum, hB⟩ := hrel
    clear hst
    rcases snoc_or ps with rfl | ⟨qs, p, rfl⟩
    · obtain ⟨a, cap, rfl, hcap⟩ := hW.none
      have hcS : c = SS := by simpa [stSum] using hsum
      subst hcS
      clear hsum
      go_wp2_with fail
      go_ret
      exact ⟨by rw [HSS.out]; rfl, hB⟩
    · obtain ⟨g, cap, rfl, hg1, hg2, hcap1, hcap2, hcell, hW'⟩ := hW.top
      obtain ⟨pv, K⟩ := p
      have hp : Ts w pv K := hT (pv, K) (by simp)
      have hT' : ∀ p ∈ qs, Ts w p.1 p.2 := fun p h => hT p (by simp [h])
      obtain ⟨pa, pc, rfl, hpc1, hpc2, hpn⟩ := hp.shape
      clear hT hW
      rw [stSum_app] at hsum
      rw [stRem_app] at hrem
      simp only [stSum, stRem, Int.add_zero, Nat.add_zero] at hsum hrem
      have hql := stRem_len qs
      have HSUM : Hid (c + (stSum f qs + sumL f K) = SS) := hsum
      clear hsum
      have hqi : (qs.length : Int) ≤ 1000000 := by omega
      go_wp2_with fail
      obtain ⟨G, hG⟩ : ∃ G, gk = G := ⟨_, rfl⟩
      have HG : Hid (gk = G) := hG
      rw [hG] at hrem hgk
      clear hG
      go_loopg [5, 6, 32] K.length (fun q ss sr si wy => TotIn w f SS K G q ss sr si wy)
      case atStart => exact ⟨0, c, qs, by omega, rfl, rfl, hc0, hW', hT', by simp; omega, by have := HSUM.out; simp; omega, hB⟩
      case round =>
        clear hcell hW' hT' hrem hB hc0 hql hqi HSUM
        obtain ⟨i, c, ps, hiq, rfl, rfl, hc0, hW, hT, hrem, hsum, hB⟩ := hrel
        cases gk with
        | zero =>
          obtain rfl : i = K.length := by omega
          rw [List.drop_length] at hrem hsum
          have HSUM : Hid (c + stSum f ps = SS) := by show c + stSum f ps = SS; simpa [sumL] using hsum
          simp only [nodesL] at hrem
          clear hsum
          go_wp2_with fail
          go_roundg (G - 1)
          case measure => have := HG.out; omega
          case rel => exact ⟨c, ps, rfl, hc0, hW, hT, by omega, by omega, HSUM.out, hB⟩
        | succ q =>
          have hik : i < K.length := by omega
          have hiki : (i : Int) < (K.length : Int) := by omega
          rw [sumL_drop f K i hik] at hsum
          rw [nodesL_drop K i hik] at hrem
          have HKN : Hid (K[i].nodes ≤ 1000000) := by
            show K[i].nodes ≤ 1000000
            rw [Tm.nodes_eq]; omega
          have hpw := hp.under hB
          obtain ⟨b, off, v, rfl, hlt, h6, hv⟩ := hpw.at i hik
          have hv0 := hv
          obtain ⟨e0, e1, e2, e3, e4, e5, hve, a0, a1, a2, a3, a4, a5⟩ := h6
          obtain ⟨sl', sk', hv', hl', hk', -, -, -⟩ := hv.open
          obtain ⟨pl', cl', rfl⟩ := hl'.shape
          obtain ⟨pk', ck', rfl, hkc1, hkc2, -⟩ := hk'.shape
          rw [hv'] at hve hv0
          simp only [tmV, Value.agg.injEq, List.toArray_inj, List.cons.injEq, and_true] at hve hv0
          obtain ⟨rfl, rfl, rfl, rfl, rfl, rfl⟩ := hve
          clear hv hv' v
          obtain ⟨fi, hfi⟩ : ∃ fi, f K[i] = fi := ⟨_, rfl⟩
          have HFI : Hid (f K[i] = fi) := hfi
          have hf1 := HF0.out K[i]
          have hs2 := stSum_nonneg f HF0.out ps
          have hs3 := sumL_nonneg f HF0.out K[i].kids
          have hs4 := sumL_nonneg f HF0.out (K.drop (i + 1))
          rw [hfi] at hf1 hsum
          have hcf : c + fi ≤ 4611686018427387904 := by have := HS.out; omega
          have HSUM : Hid (c + stSum f ps + (fi + sumL f K[i].kids + sumL f (K.drop (i + 1))) = SS) := hsum
          clear hsum hfi hs2 hs3 hs4
          have hkw := (hp.at i hik)
          obtain ⟨_, _, vx, hx1, -, hx2, hx3⟩ := hkw
          have HKW : Hid (Ts w (.slice pk' K[i].kids.length ck') K[i].kids) := by
            obtain ⟨sl9, sk9, hv9, -, hk9, -⟩ := hx3.open
            obtain ⟨d0, d1, d2, d3, d4, d5, hd, -, -, -, -, -, q5⟩ := hx2
            simp only [Option.some.injEq, Addr.mk.injEq, and_true] at hx1
            obtain ⟨rfl, rfl⟩ := hx1
            rw [hv9] at hd
            simp only [tmV, Value.agg.injEq, List.toArray_inj, List.cons.injEq, and_true] at hd
            have h5 := hB.cell (p := ⟨_, off + i * 6 + 5, none⟩) (World.block_lt_of_cell? w _ q5)
            rw [a5, q5] at h5
            injection h5 with h5
            obtain ⟨rfl, rfl, rfl, rfl, rfl, rfl⟩ := hd
            rw [h5]
            exact hk9
          clear hx1 hx2 hx3 vx
          have hbk := (Below.refl wr.heap.size wr).alloc (Nat.le_refl _) (.cells #[.int .i64 K[i].kind, .bool K[i].neg, .slice pl' K[i].limbs.length cl', .string K[i].str, .int .i64 K[i].num, .slice pk' K[i].kids.length ck'] 29)
          have ub := Bt.new wr K[i].kind K[i].neg (.slice pl' K[i].limbs.length cl') K[i].str K[i].num (.slice pk' K[i].kids.length ck') ⟨_, _, _, rfl⟩ ⟨_, _, _, rfl⟩
          go_wp2_with fail
          refine (hf.out K[i] _ _ (hv0.under hbk) HKN.out).mono ?_
          rw [HFI.out]
          rintro e w2 ⟨rfl, b2⟩
          replace ub := ub.under b2
          have b22 := hbk.trans (b2.mono hbk.size)
          replace hW := hW.below b22
          replace hB := hB.trans (b22.mono hB.size)
          clear hbk b2 b22 a0 a1 a2 a3 a4 a5 hv0 hl' hk' hpw
          obtain ⟨a0, a1, a2, a3, a4, a5⟩ := ub.cells
          have hremL := stRem_len ps
          by_cases h0 : K[i].kids.length = 0
          · have h0' : ¬ ((0 : Int) < (K[i].kids.length : Int)) := by omega
            have hkn : K[i].kids = [] := List.eq_nil_of_length_eq_zero h0
            have HF : Hid (c + fi + stSum f ps + sumL f (K.drop (i + 1)) = SS) := by
              have := HSUM.out
              rw [hkn] at this
              simp only [sumL] at this
              show _ = _
              omega
            clear h0 hkn HSUM
            go_wp2_with fail
            go_roundg q
            case measure => omega
            case rel => exact ⟨i + 1, c + fi, ps, by omega, by go_num, rfl, by omega, hW, hT, by omega, HF.out, hB⟩
          · have h0' : (0 : Int) < (K[i].kids.length : Int) := by omega
            go_wp2_with (first | (at_builtin; refine wpList_append_own_at _ rfl _ _ 129 rfl w.heap.size 27 ti (.slice none 0 0) 1 24 Tryd.underlying129 hi hz0 hz1 hz2 rfl (by decide) u6 ps.length (ps.map Prod.fst) rfl (World.ownsRow.alloc hW _) ⟨w2.heap.size, 0, none⟩ 1 1 [.slice pk' K[i].kids.length ck'] rfl rfl (cell_one_new _ _ _) (fun u hu => by simp at hu; subst hu; rfl) (by simp only [maxLen]; omega) (by omega) (by have := hB.size; simp; omega) ?_; intro v5 w5 hown5 hgr5 hnil5 hloc5) | fail)
            have HF : Hid (c + fi + stSum f (ps ++ [(.slice pk' K[i].kids.length ck', K[i].kids)]) + sumL f (K.drop (i + 1)) = SS) := by
              have := HSUM.out
              show _ = _
              rw [stSum_app]
              simp only [stSum]
              omega
            have hgr0 : ∀ k, u6.ownBlock = some k → w.heap.size ≤ k := fun k hk => (World.ownsRow.lt hW k hk).1
            have hB5 : Below w.heap.size w w5 := (hB.alloc hB.size _).grown hgr5 (by have := hB.size; simp; omega) hgr0
            have hW5 : Wait w5 w.heap.size v5 (ps ++ [(.slice pk' K[i].kids.length ck', K[i].kids)]) := by
              unfold Wait
              simpa using hown5
            clear hown5 hgr5 hnil5 hloc5 HSUM
            go_roundg q
            case measure => omega
            case rel =>
              refine ⟨i + 1, c + fi, _, by omega, by go_num, rfl, by omega, hW5, ?_, ?_, HF.out, hB5⟩
              · intro p hpm
                rcases List.mem_append.1 hpm with h | h
                · exact hT p h
                · simp at h
                  rw [h]
                  exact HKW.out
              · rw [stRem_app]
                simp only [stRem]
                omega
end Go.Proofs.YtbmondbicnfcpaaDoor
