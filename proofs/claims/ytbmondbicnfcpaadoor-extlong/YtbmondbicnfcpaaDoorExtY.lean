
/-
  ext: what read's rounds keep; one more is open.
-/
import Derived.Test.YtbmondbicnfcpaaDoorExtX
import Derived.Deep.CutRange
import Derived.Deep.RegionLaw
namespace Go.Proofs.YtbmondbicnfcpaaDoor
open Go.RowKit
set_option linter.unusedVariables false
set_option linter.unusedSimpArgs false

def stkP (hs : List Ho) : List Hp := (hs.map Ho.pl).reverse
theorem stkP_more (hs : List Ho) (h : Ho) : stkP (hs ++ [h]) = h.pl :: stkP hs := by simp [stkP]
theorem depS_eq (hs : List Ho) : depS hs = depP (stkP hs) := by
  rcases snoc_or hs with rfl | ⟨q, h, rfl⟩
  · rfl
  · rw [stkP_more, depS_some _ (by simp)]
    simp [depP, Ho.pl]
/-- What the rounds keep. -/
def RoI (W0 : World) (B g gr : Nat) (bv : Value) (L : Nat) (p n : Nat) (hs : List Ho) (ov : Value) (P : Nat → Bool) (wr : World) : Prop :=
  RdX wr g bv p n ov ∧ StI W0 B g hs ov P wr ∧ Bt wr gr 0 false (.slice none 0 0) ⟨#[]⟩ 0 (.slice none 0 0) ∧ p ≤ L ∧ n ≤ 2000 ∧ hs.length ≤ n ∧ (∀ h ∈ hs, h.ps.length < h.want)
theorem Tryd.infoH : (Tryd.prog.info? 113).map (fun i => (i.zero, i.size, i.bytes)) = some (some (.agg #[.int .i64 0, .int .i64 0, .slice none 0 0, .int .i64 0]), 4, 48) := by kernel_rfl

theorem own_slice {w : World} {base : Nat} {e : TypeId} {size : Nat} {v : Value} {n : Nat} {xs : List Value} (h : w.ownsRow base e size v n xs) : ∃ a c, v = .slice a n c := by
  rcases h.2 with ⟨h1, h2⟩ | ⟨g, cap, cur, h1, _⟩
  · exact ⟨none, 0, by rw [h1, h2]⟩
  · exact ⟨_, _, h1⟩
/-- read's answer. -/
def RePost (W0 : World) (g : Nat) (bv : Value) (R : Rs) (e : Ending) (w' : World) : Prop :=
  ∃ v, e = .returned (.tuple #[v, .int .i64 (R.e : Int)]) ∧ ShP.IsS6 v ∧ Below W0.heap.size W0 w' ∧ (R.e = 0 → ∃ P n ov, RdX w' g bv R.p n ov ∧ IsT (veil P w') R.t v ∧ ∀ b, P b = true → g < b)

theorem step_app_at {P : Program} {ops : Array Oper} {o : Oper} {a : Act} {w : World} {K : Act → World → Prop} {Q : Exit → Act → World → Prop} {E : Prop}
    (hg : o.guard = none) (s x : Operand) (t : TypeId) (hop : o.op = Op.call { callee := Callee.builtin Builtin.append, args := #[s, x], argTypes := #[t, t] })
    (base : Nat) (e : TypeId) (i : TypeInfo) (z : Value) (size bytes : Nat) (h1 : P.underlying t = some (.slice e)) (h2 : P.info? e = some i) (h3 : i.zero = some z) (h4 : i.size = size) (h5 : i.bytes = bytes) (h6 : z.cells.size = size) (h7 : 0 < size)
    (v : Value) (n : Nat) (xs : List Value) (hs : a.eval s = v) (hown : w.ownsRow base e size v n xs)
    (ad : Addr) (m c : Nat) (news : List Value) (hx : a.eval x = .slice (some ad) m c) (hn : news.length = m * size) (hc : ∀ j u, news[j]? = some u → w.cell? (ad.add j) = some u) (h1c : ∀ u ∈ news, u.oneCell' = true)
    (b1 : n + m ≤ maxLen) (b2 : (n + m) * bytes ≤ 140737488355328) (hb : base ≤ w.heap.size)
    (hK : ∀ v' w', w'.ownsRow base e size v' (n + m) (xs ++ news) → w.grownBy w' v.ownBlock → (v'.ownBlock = v.ownBlock ∨ v'.ownBlock = some w.heap.size) → K (a.put o.dst v') w') :
    if Region.wanted o (yielded ops a.tmps) = true then Oper.wp P o a w K Q else E := by
  have hw : Region.wanted o (yielded ops a.tmps) = true := by simp [Region.wanted, hg]
  rw [if_pos hw]
  obtain ⟨v', w', hrun, r1, r2, _, r3⟩ := run_append_own_at (P := P) w base t o.type e i z size bytes h1 h2 h3 h4 h5 h6 h7 v n xs hown ad m c news hn hc h1c b1 b2 hb
  unfold Oper.wp
  simp [execOp, hop, resolve, invoke, builtin, hs, hx, hrun, Result.andThen]
  exact hK v' w' r1 r2 r3
theorem World.ownsRow.look {w w' : World} {base : Nat} {e : TypeId} {size : Nat} {v : Value} {n : Nat} {xs : List Value} (h : w.ownsRow base e size v n xs) (hb : ∀ b, v.ownBlock = some b → w'.heap[b]? = w.heap[b]?) : w'.ownsRow base e size v n xs := by
  obtain ⟨h1, h2⟩ := h
  refine ⟨h1, ?_⟩
  rcases h2 with h3 | ⟨g, cap, cur, rfl, hb1, hh, h4⟩
  · exact .inl h3
  · exact .inr ⟨g, cap, cur, rfl, hb1, by rw [hb g rfl]; exact hh, h4⟩
/-- One more is open. -/
theorem ro_push {W0 wr w2 x1 w5 : World} {B g gr L p n p2 n2 : Nat} {bv : Value} {hs : List Ho} {oa a5 : Option Addr} {oc c5 : Nat} {P : Nat → Bool} {h : Ho} {lit : Obj} (hI : RoI W0 B g gr bv L p n hs (.slice oa hs.length oc) P wr) (hgB : g < gr) (hgr : gr < B) (hWg : W0.heap.size ≤ g)
    (hx2 : RdX w2 g bv p2 n2 (.slice oa hs.length oc)) (hg2 : Grw g wr w2) (hk1 : Below w2.heap.size w2 x1) (hgw : (x1.alloc lit).grownBy w5 (Value.slice oa hs.length oc).ownBlock)
    (hown : w5.ownsRow B 113 4 (.slice a5 (hs.length + 1) c5) (hs.length + 1) (flatH hs ++ [.int .i64 h.kind, .int .i64 (h.depth : Int), h.pv, .int .i64 (h.want : Int)]))
    (hloc : (Value.slice a5 (hs.length + 1) c5).ownBlock = (Value.slice oa hs.length oc).ownBlock ∨ (Value.slice a5 (hs.length + 1) c5).ownBlock = some (x1.alloc lit).heap.size)
    (hh1 : h.pv = .slice none 0 0) (hh2 : h.ps = []) (hh3 : h.kind = 4 ∨ h.kind = 5) (hh4 : h.depth ≤ 100) (hh5 : h.want ≤ 3000) (hh6 : 1 ≤ h.want) (hp2 : p2 ≤ L) (hn2 : n2 ≤ 2000) (hnn : n < n2) (hG : (0 : Nat) < W0.heap.size) :
    RoI W0 B g gr bv L p2 n2 (hs ++ [h]) (.slice a5 (hs.length + 1) c5) P (w5.setCell ⟨g, 3, none⟩ (.slice a5 (hs.length + 1) c5)) := by
  obtain ⟨hx, ⟨i1, i2, i3, i4, i5, i6, i7, i8⟩, hbr, hpl, hn, hsn, hpw⟩ := hI
  have hrl := hx.lt
  have s2 := hg2.size
  have s3 := hk1.size
  have s5 := hgw.size
  have sa : (x1.alloc lit).heap.size = x1.heap.size + 1 := by simp
  have hovB : ∀ k, (Value.slice oa hs.length oc).ownBlock = some k → B ≤ k := fun k hk => (i3.lt k hk).1
  -- what was not the reader's box, nor the row of those that are open, stands
  have stay : ∀ k, k < wr.heap.size → k ≠ g → (Value.slice oa hs.length oc).ownBlock ≠ some k → (w5.setCell ⟨g, 3, none⟩ (.slice a5 (hs.length + 1) c5)).heap[k]? = wr.heap[k]? := fun k h1 h2 h3 => by
    rw [((But.refl g w5).setCell 3 (.slice a5 (hs.length + 1) c5)).block k h2, hgw.block k (by omega) (fun e => h3 e.symm), ((Below.refl x1.heap.size x1).alloc (Nat.le_refl _) lit).block k (by omega), hk1.block k (by omega), hg2.block k h1 h2]
  have hsz : (w5.setCell ⟨g, 3, none⟩ (.slice a5 (hs.length + 1) c5)).heap.size = w5.heap.size := by simp [World.setCell]
  have hxb : RdX w5 g bv p2 n2 (.slice oa hs.length oc) := by
    have h1 := (hx2.under hk1).under ((Below.refl x1.heap.size x1).alloc (Nat.le_refl _) lit)
    exact h1.block (hgw.block g h1.lt (fun e => by have := hovB g e.symm; omega))
  have hnew : ∀ k, (Value.slice a5 (hs.length + 1) c5).ownBlock = some k → P k = false ∧ k ≠ g := fun k hk => by
    have hkB : B ≤ k := (World.ownsRow.lt hown k hk).1
    refine ⟨?_, by omega⟩
    rcases hloc with h1 | h1
    · exact i6 k (by rw [← h1]; exact hk)
    · rw [hk] at h1
      injection h1 with h1
      cases hP : P k with
      | false => rfl
      | true => have := (i5 k hP).1; omega
  have hpvn : ∀ x ∈ hs, ∀ k, x.pv.ownBlock = some k → (Value.slice oa hs.length oc).ownBlock ≠ some k := fun x hx2 k hk e => by
    obtain ⟨-, -, cur, l1⟩ := (i4 x hx2).1.lt k hk
    obtain ⟨-, -, cur2, l2⟩ := i3.lt k e
    rw [l1] at l2
    injection l2 with l2
    injection l2 with _ e2 _
    exact absurd e2 (by decide)
  have hf : flatH (hs ++ [h]) = flatH hs ++ [.int .i64 h.kind, .int .i64 (h.depth : Int), h.pv, .int .i64 (h.want : Int)] := by rw [flatH_app]; simp [flatH]
  refine ⟨hxb.setO _ ⟨_, _, _, rfl⟩, ⟨?_, ?_, ⟨?_, ?_⟩, ?_, ?_, ?_, ?_, ?_⟩, ?_, hp2, hn2, by simp; omega, ?_⟩
  · have h1 := i1.size
    refine ⟨?_, ?_, ?_, by rw [hsz]; omega, fun k hk => ?_⟩
    · exact (((hgw.os.trans rfl).trans hk1.os).trans (hg2.os)).trans i1.os
    · exact (((hgw.tape.trans rfl).trans hk1.tape).trans (hg2.tape)).trans i1.tape
    · exact (((hgw.output.trans rfl).trans hk1.output).trans (hg2.output)).trans i1.output
    · rw [stay k (by omega) (by omega) (fun e => by have := hovB k e; omega)]
      exact i1.block k hk
  · intro j u hj
    have h1 := i1.size
    rw [World.cell?_of_block (w := wr) (stay _ (show (0 : Nat) < wr.heap.size by omega) (show (0 : Nat) ≠ g by omega) (fun e => by have h9 : B ≤ (0 : Nat) := hovB (0 : Nat) e; omega))]
    exact i2 j u hj
  · rw [hf, List.length_append]
    exact World.ownsRow.look hown (fun b hb => ((But.refl g w5).setCell 3 (.slice a5 (hs.length + 1) c5)).block b (hnew b hb).2)
  · intro x hx2
    rcases List.mem_append.1 hx2 with hx2 | hx2
    · exact i3.2 x hx2
    · simp only [List.mem_singleton] at hx2
      subst hx2
      exact ⟨⟨none, 0, by rw [hh1, hh2]; rfl⟩, hh3, hh4, hh5, hh6, by rw [hh2]; simp⟩
  · intro x hx2
    rcases List.mem_append.1 hx2 with hx2 | hx2
    · refine ⟨(i4 x hx2).1.see (fun k hk => stay k ((i4 x hx2).1.lt k hk).2.1 (by have := ((i4 x hx2).1.lt k hk).1; omega) (hpvn x hx2 k hk)), fun q hq => ((i4 x hx2).2 q hq).veiled (by rw [hsz]; omega) (fun k hk hlt => ⟨stay k hlt (by have := (i5 k hk).2; omega) (fun e => by have := i6 k e; rw [hk] at this; cases this), hk⟩)⟩
    · simp only [List.mem_singleton] at hx2
      subst hx2
      refine ⟨?_, fun q hq => ?_⟩
      · rw [hh1, hh2]; exact World.ownsRow_nil _ _ _ _
      · rw [hh2] at hq; exact absurd hq (by simp)
  · intro k hk
    have := i5 k hk
    rw [hsz]
    omega
  · exact fun k hk => (hnew k hk).1
  · intro x hx2 k hk
    rcases List.mem_append.1 hx2 with hx2 | hx2
    · exact i7 x hx2 k hk
    · simp only [List.mem_singleton] at hx2
      subst hx2
      rw [hh1] at hk; cases hk
  · intro a b ha hb hab k hk
    have hal : a < hs.length := by simp at ha hb; omega
    rw [List.getElem_append_left hal] at hk
    by_cases hbl : b < hs.length
    · rw [List.getElem_append_left hbl]
      exact i8 a b hal hbl hab k hk
    · have hbe : b = hs.length := by simp at hb; omega
      subst hbe
      rw [List.getElem_append_right (Nat.le_refl _)]
      simp [hh1, Value.ownBlock]
  · refine ⟨?_, hbr.2⟩
    rw [stay gr hbr.lt (by omega) (fun e => by have := hovB gr e; omega)]
    exact hbr.1
  · intro x hx2
    rcases List.mem_append.1 hx2 with hx2 | hx2
    · exact hpw x hx2
    · simp only [List.mem_singleton] at hx2
      subst hx2
      rw [hh2]; simp; omega

end Go.Proofs.YtbmondbicnfcpaaDoor
