import Derived.Test.YtbmondbicnfcpaaDoorZExtD
import Derived.Deep.CutRange
import Derived.Deep.RegionLaw

/-
  ext: what read's rounds keep; one more is open.
-/
namespace Go.Proofs.YtbmondbicnfcpaaDoor
open Go.RowKit
set_option linter.unusedVariables false
set_option linter.unusedSimpArgs false

def stkP (hs : List Ho) : List Hp := (hs.map Ho.pl).reverse
theorem stkP_more (hs : List Ho) (h : Ho) : stkP (hs ++ [h]) = h.pl :: stkP hs := by simp [stkP]
theorem depS_eq (hs : List Ho) : depS hs = depP (stkP hs) := by
  rcases snoc_or hs with rfl | ⟨q, h, rfl⟩
  · rfl
  · rw [stkP_more, depS_some _ (by simp)]
    simp [depP, Ho.pl]
/-- What the rounds keep. -/
def RoI (W0 : World) (B g gr : Nat) (bv : Value) (L : Nat) (p n : Nat) (hs : List Ho) (ov : Value) (P : Nat → Bool) (wr : World) : Prop :=
  RdX wr g bv p n ov ∧ StI W0 B g hs ov P wr ∧ Bt wr gr 0 false (.slice none 0 0) ⟨#[]⟩ 0 (.slice none 0 0) ∧ p ≤ L ∧ n ≤ 2000 ∧ hs.length ≤ n ∧ (∀ h ∈ hs, h.ps.length < h.want)
theorem Tryd.infoH : (Tryd.prog.info? 113).map (fun i => (i.zero, i.size, i.bytes)) = some (some (.agg #[.int .i64 0, .int .i64 0, .slice none 0 0, .int .i64 0]), 4, 48) := by kernel_rfl

theorem own_slice {w : World} {base : Nat} {e : TypeId} {size : Nat} {v : Value} {n : Nat} {xs : List Value} (h : w.ownsRow base e size v n xs) : ∃ a c, v = .slice a n c := by
  rcases h.2 with ⟨h1, h2⟩ | ⟨g, cap, cur, h1, _⟩
  · exact ⟨none, 0, by rw [h1, h2]⟩
  · exact ⟨_, _, h1⟩
/-- read's answer. -/
def RePost (W0 : World) (g : Nat) (bv : Value) (R : Rs) (e : Ending) (w' : World) : Prop :=
  ∃ v, e = .returned (.tuple #[v, .int .i64 (R.e : Int)]) ∧ ShP.IsS6 v ∧ Below W0.heap.size W0 w' ∧ (R.e = 0 → ∃ P n ov, RdX w' g bv R.p n ov ∧ IsT (veil P w') R.t v ∧ ∀ b, P b = true → g < b)

theorem step_app_at {P : Program} {ops : Array Oper} {o : Oper} {a : Act} {w : World} {K : Act → World → Prop} {Q : Exit → Act → World → Prop} {E : Prop}
    (hg : o.guard = none) (s x : Operand) (t : TypeId) (hop : o.op = Op.call { callee := Callee.builtin Builtin.append, args := #[s, x], argTypes := #[t, t] })
    (base : Nat) (e : TypeId) (i : TypeInfo) (z : Value) (size bytes : Nat) (h1 : P.underlying t = some (.slice e)) (h2 : P.info? e = some i) (h3 : i.zero = some z) (h4 : i.size = size) (h5 : i.bytes = bytes) (h6 : z.cells.size = size) (h7 : 0 < size)
    (v : Value) (n : Nat) (xs : List Value) (hs : a.eval s = v) (hown : w.ownsRow base e size v n xs)
    (ad : Addr) (m c : Nat) (news : List Value) (hx : a.eval x = .slice (some ad) m c) (hn : news.length = m * size) (hc : ∀ j u, news[j]? = some u → w.cell? (ad.add j) = some u) (h1c : ∀ u ∈ news, u.oneCell' = true)
    (b1 : n + m ≤ maxLen) (b2 : (n + m) * bytes ≤ 140737488355328) (hb : base ≤ w.heap.size)
    (hK : ∀ v' w', w'.ownsRow base e size v' (n + m) (xs ++ news) → w.grownBy w' v.ownBlock → (v'.ownBlock = v.ownBlock ∨ v'.ownBlock = some w.heap.size) → K (a.put o.dst v') w') :
    if Region.wanted o (yielded ops a.tmps) = true then Oper.wp P o a w K Q else E := by
  have hw : Region.wanted o (yielded ops a.tmps) = true := by simp [Region.wanted, hg]
  rw [if_pos hw]
  obtain ⟨v', w', hrun, r1, r2, _, r3⟩ := run_append_own_at (P := P) w base t o.type e i z size bytes h1 h2 h3 h4 h5 h6 h7 v n xs hown ad m c news hn hc h1c b1 b2 hb
  unfold Oper.wp
  simp [execOp, hop, resolve, invoke, builtin, hs, hx, hrun, Result.andThen]
  exact hK v' w' r1 r2 r3
theorem World.ownsRow.look {w w' : World} {base : Nat} {e : TypeId} {size : Nat} {v : Value} {n : Nat} {xs : List Value} (h : w.ownsRow base e size v n xs) (hb : ∀ b, v.ownBlock = some b → w'.heap[b]? = w.heap[b]?) : w'.ownsRow base e size v n xs := by
  obtain ⟨h1, h2⟩ := h
  refine ⟨h1, ?_⟩
  rcases h2 with h3 | ⟨g, cap, cur, rfl, hb1, hh, h4⟩
  · exact .inl h3
  · exact .inr ⟨g, cap, cur, rfl, hb1, by rw [hb g rfl]; exact hh, h4⟩
/-- One more is open. -/
theorem ro_push {W0 wr w2 x1 w5 : World} {B g gr L p n p2 n2 : Nat} {bv : Value} {hs : List Ho} {oa a5 : Option Addr} {oc c5 : Nat} {P : Nat → Bool} {h : Ho} {lit : Obj} (hI : RoI W0 B g gr bv L p n hs (.slice oa hs.length oc) P wr) (hgB : g < gr) (hgr : gr < B) (hWg : W0.heap.size ≤ g)
    (hx2 : RdX w2 g bv p2 n2 (.slice oa hs.length oc)) (hg2 : Grw g wr w2) (hk1 : Below w2.heap.size w2 x1) (hgw : (x1.alloc lit).grownBy w5 (Value.slice oa hs.length oc).ownBlock)
    (hown : w5.ownsRow B 113 4 (.slice a5 (hs.length + 1) c5) (hs.length + 1) (flatH hs ++ [.int .i64 h.kind, .int .i64 (h.depth : Int), h.pv, .int .i64 (h.want : Int)]))
    (hloc : (Value.slice a5 (hs.length + 1) c5).ownBlock = (Value.slice oa hs.length oc).ownBlock ∨ (Value.slice a5 (hs.length + 1) c5).ownBlock = some (x1.alloc lit).heap.size)
    (hh1 : h.pv = .slice none 0 0) (hh2 : h.ps = []) (hh3 : h.kind = 4 ∨ h.kind = 5) (hh4 : h.depth ≤ 100) (hh5 : h.want ≤ 3000) (hh6 : 1 ≤ h.want) (hp2 : p2 ≤ L) (hn2 : n2 ≤ 2000) (hnn : n < n2) (hG : (0 : Nat) < W0.heap.size) :
    RoI W0 B g gr bv L p2 n2 (hs ++ [h]) (.slice a5 (hs.length + 1) c5) P (w5.setCell ⟨g, 3, none⟩ (.slice a5 (hs.length + 1) c5)) := by
  obtain ⟨hx, ⟨i1, i2, i3, i4, i5, i6, i7, i8⟩, hbr, hpl, hn, hsn, hpw⟩ := hI
  have hrl := hx.lt
  have s2 := hg2.size
  have s3 := hk1.size
  have s5 := hgw.size
  have sa : (x1.alloc lit).heap.size = x1.heap.size + 1 := by simp
  have hovB : ∀ k, (Value.slice oa hs.length oc).ownBlock = some k → B ≤ k := fun k hk => (i3.lt k hk).1
  -- what was not the reader's box, nor the row of those that are open, stands
  have stay : ∀ k, k < wr.heap.size → k ≠ g → (Value.slice oa hs.length oc).ownBlock ≠ some k → (w5.setCell ⟨g, 3, none⟩ (.slice a5 (hs.length + 1) c5)).heap[k]? = wr.heap[k]? := fun k h1 h2 h3 => by
    rw [((But.refl g w5).setCell 3 (.slice a5 (hs.length + 1) c5)).block k h2, hgw.block k (by omega) (fun e => h3 e.symm), ((Below.refl x1.heap.size x1).alloc (Nat.le_refl _) lit).block k (by omega), hk1.block k (by omega), hg2.block k h1 h2]
  have hsz : (w5.setCell ⟨g, 3, none⟩ (.slice a5 (hs.length + 1) c5)).heap.size = w5.heap.size := by simp [World.setCell]
  have hxb : RdX w5 g bv p2 n2 (.slice oa hs.length oc) := by
    have h1 := (hx2.under hk1).under ((Below.refl x1.heap.size x1).alloc (Nat.le_refl _) lit)
    exact h1.block (hgw.block g h1.lt (fun e => by have := hovB g e.symm; omega))
  have hnew : ∀ k, (Value.slice a5 (hs.length + 1) c5).ownBlock = some k → P k = false ∧ k ≠ g := fun k hk => by
    have hkB : B ≤ k := (World.ownsRow.lt hown k hk).1
    refine ⟨?_, by omega⟩
    rcases hloc with h1 | h1
    · exact i6 k (by rw [← h1]; exact hk)
    · rw [hk] at h1
      injection h1 with h1
      cases hP : P k with
      | false => rfl
      | true => have := (i5 k hP).1; omega
  have hpvn : ∀ x ∈ hs, ∀ k, x.pv.ownBlock = some k → (Value.slice oa hs.length oc).ownBlock ≠ some k := fun x hx2 k hk e => by
    obtain ⟨-, -, cur, l1⟩ := (i4 x hx2).1.lt k hk
    obtain ⟨-, -, cur2, l2⟩ := i3.lt k e
    rw [l1] at l2
    injection l2 with l2
    injection l2 with _ e2 _
    exact absurd e2 (by decide)
  have hf : flatH (hs ++ [h]) = flatH hs ++ [.int .i64 h.kind, .int .i64 (h.depth : Int), h.pv, .int .i64 (h.want : Int)] := by rw [flatH_app]; simp [flatH]
  refine ⟨hxb.setO _ ⟨_, _, _, rfl⟩, ⟨?_, ?_, ⟨?_, ?_⟩, ?_, ?_, ?_, ?_, ?_⟩, ?_, hp2, hn2, by simp; omega, ?_⟩
  · have h1 := i1.size
    refine ⟨?_, ?_, ?_, by rw [hsz]; omega, fun k hk => ?_⟩
    · exact (((hgw.os.trans rfl).trans hk1.os).trans (hg2.os)).trans i1.os
    · exact (((hgw.tape.trans rfl).trans hk1.tape).trans (hg2.tape)).trans i1.tape
    · exact (((hgw.output.trans rfl).trans hk1.output).trans (hg2.output)).trans i1.output
    · rw [stay k (by omega) (by omega) (fun e => by have := hovB k e; omega)]
      exact i1.block k hk
  · intro j u hj
    have h1 := i1.size
    rw [World.cell?_of_block (w := wr) (stay _ (show (0 : Nat) < wr.heap.size by omega) (show (0 : Nat) ≠ g by omega) (fun e => by have h9 : B ≤ (0 : Nat) := hovB (0 : Nat) e; omega))]
    exact i2 j u hj
  · rw [hf, List.length_append]
    exact World.ownsRow.look hown (fun b hb => ((But.refl g w5).setCell 3 (.slice a5 (hs.length + 1) c5)).block b (hnew b hb).2)
  · intro x hx2
    rcases List.mem_append.1 hx2 with hx2 | hx2
    · exact i3.2 x hx2
    · simp only [List.mem_singleton] at hx2
      subst hx2
      exact ⟨⟨none, 0, by rw [hh1, hh2]; rfl⟩, hh3, hh4, hh5, hh6, by rw [hh2]; simp⟩
  · intro x hx2
    rcases List.mem_append.1 hx2 with hx2 | hx2
    · refine ⟨(i4 x hx2).1.see (fun k hk => stay k ((i4 x hx2).1.lt k hk).2.1 (by have := ((i4 x hx2).1.lt k hk).1; omega) (hpvn x hx2 k hk)), fun q hq => ((i4 x hx2).2 q hq).veiled (by rw [hsz]; omega) (fun k hk hlt => ⟨stay k hlt (by have := (i5 k hk).2; omega) (fun e => by have := i6 k e; rw [hk] at this; cases this), hk⟩)⟩
    · simp only [List.mem_singleton] at hx2
      subst hx2
      refine ⟨?_, fun q hq => ?_⟩
      · rw [hh1, hh2]; exact World.ownsRow_nil _ _ _ _
      · rw [hh2] at hq; exact absurd hq (by simp)
  · intro k hk
    have := i5 k hk
    rw [hsz]
    omega
  · exact fun k hk => (hnew k hk).1
  · intro x hx2 k hk
    rcases List.mem_append.1 hx2 with hx2 | hx2
    · exact i7 x hx2 k hk
    · simp only [List.mem_singleton] at hx2
      subst hx2
      rw [hh1] at hk; cases hk
  · intro a b ha hb hab k hk
    have hal : a < hs.length := by simp at ha hb; omega
    rw [List.getElem_append_left hal] at hk
    by_cases hbl : b < hs.length
    · rw [List.getElem_append_left hbl]
      exact i8 a b hal hbl hab k hk
    · have hbe : b = hs.length := by simp at hb; omega
      subst hbe
      rw [List.getElem_append_right (Nat.le_refl _)]
      simp [hh1, Value.ownBlock]
  · refine ⟨?_, hbr.2⟩
    rw [stay gr hbr.lt (by omega) (fun e => by have := hovB gr e; omega)]
    exact hbr.1
  · intro x hx2
    rcases List.mem_append.1 hx2 with hx2 | hx2
    · exact hpw x hx2
    · simp only [List.mem_singleton] at hx2
      subst hx2
      rw [hh2]; simp; omega

end Go.Proofs.YtbmondbicnfcpaaDoor


/-
  ext: one more part.
-/
namespace Go.Proofs.YtbmondbicnfcpaaDoor
open Go.RowKit
set_option linter.unusedVariables false
set_option linter.unusedSimpArgs false

/-- A term is laid into a row, and the row's slice into its holder. -/
def laidP (w : World) (g5 o : Nat) (c0 c1 c2 c3 c4 c5 : Value) (go oi : Nat) (v : Value) : World :=
  ((((((w.setCell ⟨g5, o, none⟩ c0).setCell ⟨g5, o + 1, none⟩ c1).setCell ⟨g5, o + 2, none⟩ c2).setCell ⟨g5, o + 3, none⟩ c3).setCell ⟨g5, o + 4, none⟩ c4).setCell ⟨g5, o + 5, none⟩ c5).setCell ⟨go, oi, none⟩ v
theorem laid_six (w : World) (g5 o : Nat) (c0 c1 c2 c3 c4 c5 : Value) : But g5 w ((((((w.setCell ⟨g5, o, none⟩ c0).setCell ⟨g5, o + 1, none⟩ c1).setCell ⟨g5, o + 2, none⟩ c2).setCell ⟨g5, o + 3, none⟩ c3).setCell ⟨g5, o + 4, none⟩ c4).setCell ⟨g5, o + 5, none⟩ c5) :=
  ((((((But.refl g5 w).setCell _ _).setCell _ _).setCell _ _).setCell _ _).setCell _ _).setCell _ _
theorem set_six (A : List Value) (z0 z1 z2 z3 z4 z5 c0 c1 c2 c3 c4 c5 : Value) (o : Nat) (h : A.length = o) : ((((((A ++ [z0, z1, z2, z3, z4, z5]).set o c0).set (o + 1) c1).set (o + 2) c2).set (o + 3) c3).set (o + 4) c4).set (o + 5) c5 = A ++ [c0, c1, c2, c3, c4, c5] := by
  subst h
  simp [List.set_append]
theorem flatH_set (hs : List Ho) (h : Ho) (v : Value) (ps : List (Value × Tm)) : (flatH (hs ++ [h])).set (hs.length * 4 + 2) v = flatH (hs ++ [⟨h.kind, h.depth, v, ps, h.want⟩]) := by
  rw [flatH_app, flatH_app]
  have hl := flatH_len hs
  rw [List.set_append, if_neg (by omega), hl, Nat.add_sub_cancel_left]
  simp [flatH]

/-- What a round of the inner loop holds: as RoI, but the innermost may be whole; the term's box is none of the parts' rows. -/
def InI (W0 : World) (B g gr gt : Nat) (bv : Value) (p n : Nat) (hs : List Ho) (ov : Value) (P : Nat → Bool) (t : Tm) (tv : Value) (wr : World) : Prop :=
  RdX wr g bv p n ov ∧ StI W0 B g hs ov P wr ∧ Bt wr gr 0 false (.slice none 0 0) ⟨#[]⟩ 0 (.slice none 0 0) ∧ IsT (veil P wr) t tv ∧ P gt = false ∧ (∀ x ∈ hs, x.pv.ownBlock ≠ some gt) ∧ B ≤ gt
theorem in_part {W0 wr w5 : World} {B g gr gt p n m g5 c5 go oc : Nat} {bv : Value} {hs : List Ho} {h : Ho} {P : Nat → Bool} {t : Tm} {lit : Obj} {pa : Option Addr} {pc : Nat} {sl sk : Value} (hI : InI W0 B g gr gt bv p n (hs ++ [h]) (.slice (some ⟨go, 0, none⟩) (hs.length + 1) oc) P t (tmV t.kind t.neg sl t.str t.num sk) wr)
    (hgB : g < gr) (hgr : gr < B) (hWg : W0.heap.size ≤ g) (hG : (0 : Nat) < W0.heap.size) (hpv : h.pv = .slice pa m pc) (hm : m = h.ps.length) (hm3 : m + 1 ≤ 3000) (hgtl : gt < wr.heap.size) (hgw : (wr.alloc lit).grownBy w5 (Value.slice pa m pc).ownBlock)
    (hown : w5.ownsRow B 29 6 (.slice (some ⟨g5, 0, none⟩) (m + 1) c5) (m + 1) (flat h.ps ++ [.int .i64 0, .bool false, .slice none 0 0, .string ⟨#[]⟩, .int .i64 0, .slice none 0 0]))
    (hloc : (Value.slice (some ⟨g5, 0, none⟩) (m + 1) c5).ownBlock = (Value.slice pa m pc).ownBlock ∨ (Value.slice (some ⟨g5, 0, none⟩) (m + 1) c5).ownBlock = some (wr.alloc lit).heap.size) :
    InI W0 B g gr gt bv p n (hs ++ [⟨h.kind, h.depth, .slice (some ⟨g5, 0, none⟩) (m + 1) c5, h.ps ++ [(tmV t.kind t.neg sl t.str t.num sk, t)], h.want⟩]) (.slice (some ⟨go, 0, none⟩) (hs.length + 1) oc) P t (tmV t.kind t.neg sl t.str t.num sk)
      (laidP w5 g5 (m * 6) (.int .i64 t.kind) (.bool t.neg) sl (.string t.str) (.int .i64 t.num) sk go (hs.length * 4 + 2) (.slice (some ⟨g5, 0, none⟩) (m + 1) c5)) ∧ (∀ k, k < wr.heap.size → (Value.slice pa m pc).ownBlock ≠ some k → k ≠ go → (laidP w5 g5 (m * 6) (.int .i64 t.kind) (.bool t.neg) sl (.string t.str) (.int .i64 t.num) sk go (hs.length * 4 + 2) (.slice (some ⟨g5, 0, none⟩) (m + 1) c5)).heap[k]? = wr.heap[k]?) ∧ (Value.slice pa m pc).ownBlock ≠ some gt ∧ (∀ cs, wr.heap[gt]? = some (.cells cs 29 (0, 0)) → gt ≠ go) := by
  obtain ⟨hx, ⟨i1, i2, i3, i4, i5, i6, i7, i8⟩, hbr, hit, hPt, hne, hBt⟩ := hI
  have hov : ∀ k, (Value.slice (some ⟨go, 0, none⟩) (hs.length + 1) oc).ownBlock = some k → k = go := fun k hk => by injection hk with hk; exact hk.symm
  obtain ⟨hgoB, hgol, gocur, hgoh⟩ := i3.lt go rfl
  obtain ⟨hwt, htr⟩ := i4 h (by simp)
  have sa : (wr.alloc lit).heap.size = wr.heap.size + 1 := by simp
  have s5 := hgw.size
  have hpvl : ∀ k, (Value.slice pa m pc).ownBlock = some k → B ≤ k ∧ k < wr.heap.size ∧ k ≠ go ∧ k ≠ gt := fun k hk => by
    rw [← hpv] at hk
    obtain ⟨l1, l2, cur, l3⟩ := hwt.lt k hk
    refine ⟨l1, l2, fun e => ?_, fun e => hne h (by simp) (by rw [← e]; exact hk)⟩
    subst e
    rw [hgoh] at l3
    injection l3 with l3
    injection l3 with _ e2 _
    exact absurd e2 (by decide)
  have hg5 : B ≤ g5 ∧ g5 ≠ go ∧ g5 ≠ gt ∧ (g5 < wr.heap.size → (Value.slice pa m pc).ownBlock = some g5) := by
    have hB5 : B ≤ g5 := (World.ownsRow.lt hown g5 rfl).1
    rcases hloc with h1 | h1
    · have h2 := hpvl g5 (by rw [← h1]; rfl)
      exact ⟨hB5, h2.2.2.1, h2.2.2.2, fun _ => by rw [← h1]; rfl⟩
    · injection h1 with h1
      have h1' : g5 = wr.heap.size + 1 := by rw [← sa]; exact h1
      exact ⟨hB5, by omega, by omega, fun h => by omega⟩
  obtain ⟨hg5B, hg5o, hg5t, hg5p⟩ := hg5
  have b6 := laid_six w5 g5 (m * 6) (.int .i64 t.kind) (.bool t.neg) sl (.string t.str) (.int .i64 t.num) sk
  obtain ⟨w6, hw6⟩ : ∃ w6, w6 = ((((((w5.setCell ⟨g5, m * 6, none⟩ (.int .i64 t.kind)).setCell ⟨g5, m * 6 + 1, none⟩ (.bool t.neg)).setCell ⟨g5, m * 6 + 2, none⟩ sl).setCell ⟨g5, m * 6 + 3, none⟩ (.string t.str)).setCell ⟨g5, m * 6 + 4, none⟩ (.int .i64 t.num)).setCell ⟨g5, m * 6 + 5, none⟩ sk) := ⟨_, rfl⟩
  have hf6 : (flat h.ps).length = m * 6 := by
    have : ∀ (ps : List (Value × Tm)), (∀ q ∈ ps, (cells6 q.1).length = 6) → (flat ps).length = ps.length * 6 := by
      intro ps
      induction ps with
      | nil => intro _; rfl
      | cons q ps ih =>
        intro hq
        have h1 := ih (fun x hx => hq x (List.mem_cons_of_mem _ hx))
        have h2 := hq q (by simp)
        have e : flat (q :: ps) = cells6 q.1 ++ flat ps := by simp [flat]
        rw [e, List.length_append, h1, h2, List.length_cons]
        omega
    rw [hm]; exact this h.ps (fun q hq => (htr q hq).six)
  have hrow6 : w6.ownsRow B 29 6 (.slice (some ⟨g5, 0, none⟩) (m + 1) c5) (m + 1) (flat h.ps ++ [.int .i64 t.kind, .bool t.neg, sl, .string t.str, .int .i64 t.num, sk]) := by
    have h0 := (World.ownsRow.stored hown (m * 6) (.int .i64 t.kind)).1
    have h1 := (World.ownsRow.stored h0 (m * 6 + 1) (.bool t.neg)).1
    have h2 := (World.ownsRow.stored h1 (m * 6 + 2) sl).1
    have h3 := (World.ownsRow.stored h2 (m * 6 + 3) (.string t.str)).1
    have h4 := (World.ownsRow.stored h3 (m * 6 + 4) (.int .i64 t.num)).1
    have h5 := (World.ownsRow.stored h4 (m * 6 + 5) sk).1
    rw [set_six _ _ _ _ _ _ _ _ _ _ _ _ _ _ hf6] at h5
    rw [hw6]; exact h5
  have e7 : laidP w5 g5 (m * 6) (.int .i64 t.kind) (.bool t.neg) sl (.string t.str) (.int .i64 t.num) sk go (hs.length * 4 + 2) (.slice (some ⟨g5, 0, none⟩) (m + 1) c5) = w6.setCell ⟨go, hs.length * 4 + 2, none⟩ (.slice (some ⟨g5, 0, none⟩) (m + 1) c5) := by rw [hw6]; rfl
  rw [← hw6] at b6
  rw [e7]
  have b7 := (But.refl go w6).setCell (hs.length * 4 + 2) (.slice (some ⟨g5, 0, none⟩) (m + 1) c5)
  have hsz : (w6.setCell ⟨go, hs.length * 4 + 2, none⟩ (.slice (some ⟨g5, 0, none⟩) (m + 1) c5)).heap.size = w5.heap.size := by rw [b7.size, b6.size]
  -- up to the stores, all but the parts' row stands
  have st6 : ∀ k, k < wr.heap.size → (Value.slice pa m pc).ownBlock ≠ some k → w6.heap[k]? = wr.heap[k]? := fun k h1 h2 => by
    rw [b6.block k (fun e => h2 (by rw [e]; exact hg5p (by omega))), hgw.block k (by omega) (fun e => h2 e.symm), ((Below.refl wr.heap.size wr).alloc (Nat.le_refl _) lit).block k h1]
  have stay : ∀ k, k < wr.heap.size → (Value.slice pa m pc).ownBlock ≠ some k → k ≠ go → (w6.setCell ⟨go, hs.length * 4 + 2, none⟩ (.slice (some ⟨g5, 0, none⟩) (m + 1) c5)).heap[k]? = wr.heap[k]? := fun k h1 h2 h3 => by
    rw [b7.block k h3]; exact st6 k h1 h2
  have hno : ∀ k, (k < B ∨ P k = true) → (Value.slice pa m pc).ownBlock ≠ some k := fun k hk e => by
    rcases hk with hk | hk
    · have := (hpvl k e).1; omega
    · have := i7 h (by simp) k (by rw [hpv]; exact e)
      rw [hk] at this; cases this
  have hnog : ∀ k, (k < B ∨ P k = true) → k ≠ go := fun k hk e => by
    rcases hk with hk | hk
    · omega
    · have := i6 go rfl
      rw [← e, hk] at this; cases this
  have hgl := hx.lt
  have hL : (hs ++ [h]).length = hs.length + 1 := by simp
  refine ⟨?_, stay, fun e => (hpvl gt e).2.2.2 rfl, fun cs hc e => (by rw [e, hgoh] at hc; injection hc with hc; injection hc with _ e2 _; exact absurd e2 (by decide))⟩
  refine ⟨hx.block (stay g hgl (hno g (.inl (by omega))) (hnog g (.inl (by omega)))), ⟨?_, ?_, ⟨?_, ?_⟩, ?_, ?_, ?_, ?_, ?_⟩, ?_, ?_, hPt, ?_, hBt⟩
  · have h1 := i1.size
    refine ⟨?_, ?_, ?_, by rw [hsz]; omega, fun k hk => ?_⟩
    · exact (((b7.os.trans b6.os).trans hgw.os).trans rfl).trans i1.os
    · exact (((b7.tape.trans b6.tape).trans hgw.tape).trans rfl).trans i1.tape
    · exact (((b7.output.trans b6.output).trans hgw.output).trans rfl).trans i1.output
    · rw [stay k (by omega) (hno k (.inl (by omega))) (hnog k (.inl (by omega)))]
      exact i1.block k hk
  · intro j u hj
    have h1 := i1.size
    rw [World.cell?_of_block (w := wr) (stay _ (show (0 : Nat) < wr.heap.size by omega) (hno _ (.inl (show (0 : Nat) < B by omega))) (hnog _ (.inl (show (0 : Nat) < B by omega))))]
    exact i2 j u hj
  · have h0 := i3.1
    rw [hL] at h0
    have h1 : w6.ownsRow B 113 4 (.slice (some ⟨go, 0, none⟩) (hs.length + 1) oc) (hs.length + 1) (flatH (hs ++ [h])) := World.ownsRow.look h0 (fun k hk => by rw [hov k hk]; exact st6 go hgol (fun e => (hpvl go e).2.2.1 rfl))
    have h2 := (World.ownsRow.stored h1 (hs.length * 4 + 2) (.slice (some ⟨g5, 0, none⟩) (m + 1) c5)).1
    rw [flatH_set hs h _ (h.ps ++ [(tmV t.kind t.neg sl t.str t.num sk, t)])] at h2
    rw [List.length_append]
    exact h2
  · intro x hx2
    rcases List.mem_append.1 hx2 with hx2 | hx2
    · exact i3.2 x (List.mem_append_left _ hx2)
    · simp only [List.mem_singleton] at hx2
      subst hx2
      obtain ⟨-, k1, k2, k3, k4, k5⟩ := i3.2 h (by simp)
      exact ⟨⟨_, c5, by rw [List.length_append, ← hm]; rfl⟩, k1, k2, k3, k4, by rw [List.length_append, ← hm]; exact hm3⟩
  · intro x hx2
    rcases List.mem_append.1 hx2 with hx2 | hx2
    · have hxm : x ∈ hs ++ [h] := List.mem_append_left _ hx2
      have hxo : ∀ k, x.pv.ownBlock = some k → (Value.slice pa m pc).ownBlock ≠ some k ∧ k ≠ go := fun k hk => by
        refine ⟨fun e => ?_, fun e => ?_⟩
        · obtain ⟨i, hi, rfl⟩ := List.getElem_of_mem hx2
          have := i8 i hs.length (by simp; omega) (by simp) hi k (by rw [List.getElem_append_left hi]; exact hk)
          rw [List.getElem_append_right (Nat.le_refl _)] at this
          simp at this
          exact this (by rw [hpv]; exact e)
        · obtain ⟨-, -, cur, l3⟩ := (i4 x hxm).1.lt k hk
          rw [e, hgoh] at l3
          injection l3 with l3
          injection l3 with _ e2 _
          exact absurd e2 (by decide)
      refine ⟨(i4 x hxm).1.see (fun k hk => stay k ((i4 x hxm).1.lt k hk).2.1 (hxo k hk).1 (hxo k hk).2), fun q hq => ((i4 x hxm).2 q hq).veiled (by rw [hsz]; omega) (fun k hk hlt => ⟨stay k hlt (hno k (.inr hk)) (hnog k (.inr hk)), hk⟩)⟩
    · simp only [List.mem_singleton] at hx2
      subst hx2
      refine ⟨?_, fun q hq => ?_⟩
      · unfold WaitT
        rw [flat_app, List.length_append, ← hm]
        have h1 := World.ownsRow.look (w' := w6.setCell ⟨go, hs.length * 4 + 2, none⟩ (.slice (some ⟨g5, 0, none⟩) (m + 1) c5)) hrow6 (fun k hk => b7.block k (by injection hk with hk; rw [← hk]; exact hg5o))
        simpa [flat, cells6, tmV] using h1
      · have hqt : IsT (veil P wr) q.2 q.1 := by
          rcases List.mem_append.1 hq with hq | hq
          · exact htr q hq
          · simp only [List.mem_singleton] at hq
            subst hq
            exact hit
        exact hqt.veiled (by rw [hsz]; omega) (fun k hk hlt => ⟨stay k hlt (hno k (.inr hk)) (hnog k (.inr hk)), hk⟩)
  · intro k hk
    have := i5 k hk
    rw [hsz]
    omega
  · exact fun k hk => by rw [hov k hk]; exact i6 go rfl
  · intro x hx2 k hk
    rcases List.mem_append.1 hx2 with hx2 | hx2
    · exact i7 x (List.mem_append_left _ hx2) k hk
    · simp only [List.mem_singleton] at hx2
      subst hx2
      have hk5 : g5 = k := by injection hk
      subst hk5
      cases hP : P g5 with
      | false => rfl
      | true => exact absurd (hg5p (i5 g5 hP).1) (hno g5 (.inr hP))
  · intro a b ha hb hab k hk
    have hal : a < hs.length := by simp at ha hb; omega
    rw [List.getElem_append_left hal] at hk
    by_cases hbl : b < hs.length
    · rw [List.getElem_append_left hbl]
      have := i8 a b (by simp; omega) (by simp; omega) hab k (by rw [List.getElem_append_left hal]; exact hk)
      rwa [List.getElem_append_left hbl] at this
    · have hbe : b = hs.length := by simp at hb; omega
      subst hbe
      rw [List.getElem_append_right (Nat.le_refl _)]
      have hkl := ((i4 hs[a] (List.mem_append_left _ (List.getElem_mem hal))).1.lt k hk).2.1
      have h8 := i8 a hs.length (by simp; omega) (by simp) hal k (by rw [List.getElem_append_left hal]; exact hk)
      rw [List.getElem_append_right (Nat.le_refl _)] at h8
      simp at h8
      intro e
      have hk5 : g5 = k := by simpa [Value.ownBlock] using e
      subst hk5
      exact h8 (by rw [hpv]; exact hg5p hkl)
  · refine ⟨?_, hbr.2⟩
    rw [stay gr hbr.lt (hno gr (.inl hgr)) (hnog gr (.inl hgr))]
    exact hbr.1
  · exact hit.veiled (by rw [hsz]; omega) (fun k hk hlt => ⟨stay k hlt (hno k (.inr hk)) (hnog k (.inr hk)), hk⟩)
  · intro x hx2
    rcases List.mem_append.1 hx2 with hx2 | hx2
    · exact hne x (List.mem_append_left _ hx2)
    · simp only [List.mem_singleton] at hx2
      subst hx2
      intro e
      have : g5 = gt := by simpa [Value.ownBlock] using e
      exact hg5t this
/-- What stands behind the append. -/
theorem ap_facts {W0 wr w5 : World} {B g gr gt p n m g5 c5 go oc : Nat} {bv tv : Value} {hs : List Ho} {h : Ho} {P : Nat → Bool} {t : Tm} {lit : Obj} {pa : Option Addr} {pc : Nat} (hI : InI W0 B g gr gt bv p n (hs ++ [h]) (.slice (some ⟨go, 0, none⟩) (hs.length + 1) oc) P t tv wr)
    (hpv : h.pv = .slice pa m pc) (hgw : (wr.alloc lit).grownBy w5 (Value.slice pa m pc).ownBlock)
    (hloc : (Value.slice (some ⟨g5, 0, none⟩) (m + 1) c5).ownBlock = (Value.slice pa m pc).ownBlock ∨ (Value.slice (some ⟨g5, 0, none⟩) (m + 1) c5).ownBlock = some (wr.alloc lit).heap.size) :
    g5 ≠ go ∧ w5.heap[go]? = wr.heap[go]? ∧ (gt < wr.heap.size → w5.heap[gt]? = wr.heap[gt]?) := by
  obtain ⟨hx, ⟨i1, i2, i3, i4, i5, i6, i7, i8⟩, hbr, hit, hPt, hne, hBt⟩ := hI
  obtain ⟨hgoB, hgol, gocur, hgoh⟩ := i3.lt go rfl
  obtain ⟨hwt, htr⟩ := i4 h (by simp)
  have sa : (wr.alloc lit).heap.size = wr.heap.size + 1 := by simp
  have hpvl : ∀ k, (Value.slice pa m pc).ownBlock = some k → k < wr.heap.size ∧ k ≠ go ∧ k ≠ gt := fun k hk => by
    rw [← hpv] at hk
    obtain ⟨l1, l2, cur, l3⟩ := hwt.lt k hk
    refine ⟨l2, fun e => ?_, fun e => hne h (by simp) (by rw [← e]; exact hk)⟩
    subst e
    rw [hgoh] at l3
    injection l3 with l3
    injection l3 with _ e2 _
    exact absurd e2 (by decide)
  have st : ∀ k, k < wr.heap.size → (Value.slice pa m pc).ownBlock ≠ some k → w5.heap[k]? = wr.heap[k]? := fun k h1 h2 => by
    rw [hgw.block k (by omega) (fun e => h2 e.symm), ((Below.refl wr.heap.size wr).alloc (Nat.le_refl _) lit).block k h1]
  refine ⟨?_, st go hgol (fun e => (hpvl go e).2.1 rfl), fun hl => st gt hl (fun e => (hpvl gt e).2.2 rfl)⟩
  rcases hloc with h1 | h1
  · exact (hpvl g5 (by rw [← h1]; rfl)).2.1
  · injection h1 with h1
    have h1' : g5 = wr.heap.size + 1 := by rw [← sa]; exact h1
    omega
theorem cell_turn (w : World) (a b : Addr) (u v : Value) (h : a.block ≠ b.block) : (w.setCell a u).setCell b v = (w.setCell b v).setCell a u := by
  have e : ((w.setCell a u).setCell b v).heap = ((w.setCell b v).setCell a u).heap := by
    apply Array.ext_getElem?
    intro i
    simp only [World.setCell, Array.getElem?_modify]
    by_cases h1 : a.block = i
    · have h2 : ¬ b.block = i := fun e => h (h1.trans e.symm)
      simp [h1, h2]
    · by_cases h2 : b.block = i
      · simp [h1, h2]
      · simp [h1, h2]
  unfold World.setCell at e ⊢
  simp only at e ⊢
  rw [e]
theorem laid_turn (w : World) (g5 o : Nat) (c0 c1 c2 c3 c4 c5 : Value) (go oi : Nat) (v : Value) (h : g5 ≠ go) :
    ((((((w.setCell ⟨go, oi, none⟩ v).setCell ⟨g5, o, none⟩ c0).setCell ⟨g5, o + 1, none⟩ c1).setCell ⟨g5, o + 2, none⟩ c2).setCell ⟨g5, o + 3, none⟩ c3).setCell ⟨g5, o + 4, none⟩ c4).setCell ⟨g5, o + 5, none⟩ c5 = laidP w g5 o c0 c1 c2 c3 c4 c5 go oi v := by
  unfold laidP
  rw [cell_turn w ⟨go, oi, none⟩ ⟨g5, o, none⟩ v c0 h.symm, cell_turn _ ⟨go, oi, none⟩ ⟨g5, o + 1, none⟩ v c1 h.symm, cell_turn _ ⟨go, oi, none⟩ ⟨g5, o + 2, none⟩ v c2 h.symm, cell_turn _ ⟨go, oi, none⟩ ⟨g5, o + 3, none⟩ v c3 h.symm, cell_turn _ ⟨go, oi, none⟩ ⟨g5, o + 4, none⟩ v c4 h.symm, cell_turn _ ⟨go, oi, none⟩ ⟨g5, o + 5, none⟩ v c5 h.symm]
end Go.Proofs.YtbmondbicnfcpaaDoor


/-
  ext: what shut leaves, and its term laid into its box.
-/
namespace Go.Proofs.YtbmondbicnfcpaaDoor
open Go.RowKit
set_option linter.unusedVariables false
set_option linter.unusedSimpArgs false

/-- Behind a store into the term's box all stands. -/
theorem InI.lay {W0 wr w' : World} {B g gr gt p n : Nat} {bv ov tv : Value} {hs : List Ho} {P : Nat → Bool} {t : Tm} {k : Int} {ng : Bool} {sl : Value} {S : ByteArray} {N : Int} {sk : Value}
    (hI : InI W0 B g gr gt bv p n hs ov P t tv wr) (hb : Bt wr gt k ng sl S N sk) (hgB : g < gr) (hgr : gr < B) (hWg : W0.heap.size ≤ g) (hG : (0 : Nat) < W0.heap.size) (hu : But gt wr w') : InI W0 B g gr gt bv p n hs ov P t tv w' := by
  obtain ⟨hx, ⟨i1, i2, i3, i4, i5, i6, i7, i8⟩, hbr, hit, hPt, hne, hBt⟩ := hI
  have hov : ov.ownBlock ≠ some gt := fun e => by
    obtain ⟨-, -, cur, h3⟩ := i3.lt gt e
    rw [hb.1] at h3
    injection h3 with h3
    injection h3 with _ e2 _
    exact absurd e2 (by decide)
  have hPn : ∀ b, P b = true → b ≠ gt := fun b h1 e => by rw [e, hPt] at h1; cases h1
  have s1 := i1.size
  refine ⟨hx.block (hu.block g (by omega)), ⟨i1.trans (hu.below (by omega)), ?_, i3.see (fun b h1 => hu.block b (fun e => hov (by rw [← e]; exact h1))), fun x hx2 => ⟨(i4 x hx2).1.see (fun b h1 => hu.block b (fun e => hne x hx2 (by rw [← e]; exact h1))), fun q hq => ((i4 x hx2).2 q hq).veiled (Nat.le_of_eq hu.size.symm) (fun b h1 _ => ⟨hu.block b (hPn b h1), h1⟩)⟩, fun b h1 => by rw [hu.size]; exact i5 b h1, i6, i7, i8⟩, hbr.other hu (by omega), hit.veiled (Nat.le_of_eq hu.size.symm) (fun b h1 _ => ⟨hu.block b (hPn b h1), h1⟩), hPt, hne, hBt⟩
  intro j u hj
  rw [World.cell?_of_block (w := wr) (hu.block _ (show (0 : Nat) ≠ gt by omega))]
  exact i2 j u hj

/-- What shut leaves. -/
theorem in_shut {W0 wc w' : World} {B g gr gt p n : Nat} {bv ov ov' tv v' : Value} {hs : List Ho} {h : Ho} {P P' : Nat → Bool} {t t' : Tm} {k : Int} {ng : Bool} {sl : Value} {S : ByteArray} {N : Int} {sk : Value}
    (hI : InI W0 B g gr gt bv p n (hs ++ [h]) ov P t tv wc) (hb : Bt wc gt k ng sl S N sk) (hgB : g < gr) (hgr : gr < B) (h1 : Grw g wc w') (h2 : RdX w' g bv p n ov') (h3 : StI W0 B g hs ov' P' w') (h4 : IsT (veil P' w') t' v')
    (h5 : ∀ b, b < wc.heap.size → P' b = true → P b = true ∨ h.pv.ownBlock = some b) : InI W0 B g gr gt bv p n hs ov' P' t' v' w' ∧ Bt w' gt k ng sl S N sk := by
  obtain ⟨hx, hst, hbr, hit, hPt, hne, hBt⟩ := hI
  refine ⟨⟨h2, h3, hbr.grw h1 (by omega), h4, ?_, fun x hx2 => hne x (List.mem_append_left _ hx2), hBt⟩, hb.grw h1 (by omega)⟩
  cases hP : P' gt with
  | false => rfl
  | true =>
    rcases h5 gt hb.lt hP with h6 | h6
    · rw [hPt] at h6; cases h6
    · exact absurd h6 (hne h (by simp))
theorem StI.drew {W0 : World} {B g : Nat} {hs : List Ho} {ov : Value} {P : Nat → Bool} {w : World} (h : StI W0 B g hs ov P w) (hgB : g < B) (hW : W0.heap.size ≤ g) : StI W0 B g hs ov P w.drew :=
  h.grw hgB hW h.2.1 (Grw.refl g w).drew (fun b hb => hb) h.2.2.2.2.1 h.2.2.2.2.2.1 h.2.2.2.2.2.2.1
theorem RoI.drew {W0 : World} {B g gr : Nat} {bv : Value} {L p n : Nat} {hs : List Ho} {ov : Value} {P : Nat → Bool} {w : World} (h : RoI W0 B g gr bv L p n hs ov P w) (hgB : g < B) (hW : W0.heap.size ≤ g) : RoI W0 B g gr bv L p n hs ov P w.drew := by
  obtain ⟨h1, h2, h3, h4⟩ := h
  exact ⟨h1.drew, h2.drew hgB hW, h3.drew, h4⟩
theorem InI.drew {W0 : World} {B g gr gt : Nat} {bv : Value} {p n : Nat} {hs : List Ho} {ov : Value} {P : Nat → Bool} {t : Tm} {tv : Value} {w : World} (h : InI W0 B g gr gt bv p n hs ov P t tv w) (hgB : g < B) (hW : W0.heap.size ≤ g) : InI W0 B g gr gt bv p n hs ov P t tv w.drew := by
  obtain ⟨h1, h2, h3, h4, h5⟩ := h
  exact ⟨h1.drew, h2.drew hgB hW, h3.drew, h4.veiled (Nat.le_refl _) (fun b hb _ => ⟨rfl, hb⟩), h5⟩
end Go.Proofs.YtbmondbicnfcpaaDoor
