/-
  Bytes appended that were made elsewhere.
-/
import Derived.Test.YtbmondbicnfcpaaDoorByRow
namespace Go.Proofs.YtbmondbicnfcpaaDoor
open Go.RowKit
set_option linter.unusedVariables false
set_option linter.unusedSimpArgs false

theorem By.news {w : World} {ad : Addr} {m c : Nat} {l : List UInt8} (h : By w (.slice (some ad) m c) l) : ∀ j u, (bv l)[j]? = some u → w.cell? (ad.add j) = some u := by
  intro j u hu
  have hj : j < l.length := by
    have := (List.getElem?_eq_some_iff.1 hu).1
    rwa [bv_len] at this
  obtain ⟨b', off', he, -, hcell⟩ := h.at j hj
  injection he with he
  subst he
  have := hcell j hj
  rw [show (⟨b', off', none⟩ : Addr).add j = ⟨b', off' + j, none⟩ by unfold Addr.add; split <;> simp_all, this]
  simp [bv, hj] at hu
  simp [List.getD, hj, hu]
set_option maxRecDepth 100000 in
theorem wpList_append_by {w : World} {ops : Array Oper} {rest : List Oper} {o : Oper} {a : Act} {Q : Exit → Act → World → Prop} (hgd : o.guard = none) (s x : Operand)
    (ho : o.op = .call { callee := .builtin .append, args := #[s, x], argTypes := #[35, 35] }) (base : Nat) (v : Value) (l : List UInt8) (hs : a.eval s = v) (h : OB w base v l) (hl : l.length ≤ 1000000000) (hb : base ≤ w.heap.size)
    (vx : Value) (news : List UInt8) (hx : a.eval x = vx) (hy : By w vx news) (hm : news.length ≤ 1000000000)
    (hK : ∀ v' w', OB w' base v' (l ++ news) → (∀ B W, B ≤ w.heap.size → B ≤ base → Below B W w → Below B W w') → Keep w w' → wpList Tryd.prog ops Q rest (a.put o.dst v') w') : wpList Tryd.prog ops Q (o :: rest) a w := by
  obtain ⟨i, hi, hz0, hz1, hz2⟩ := info_parts Tryd.infoB
  obtain ⟨ax, cx, rfl, hc1, hc2, hc3⟩ := hy.shape
  cases ax with
  | none =>
    have hl0 : news.length = 0 := by have := hc3 rfl; omega
    obtain rfl : news = [] := List.eq_nil_of_length_eq_zero hl0
    have hc0 := hc3 rfl
    subst hc0
    rw [List.append_nil] at hK
    exact wpList_append_own_none hgd s x 35 ho base 5 i 1 Tryd.underlying35 hi v l.length (bv l) hs h hx (hK v w h (fun B W _ _ hB => hB) (Keep.refl w))
  | some ad =>
    refine wpList_append_own _ hgd s x 35 ho base 5 i (.int .u8 0) 1 1 Tryd.underlying35 hi hz0 hz1 hz2 rfl (by decide) v l.length (bv l) hs h ad news.length cx (bv news) hx (by rw [bv_len, Nat.mul_one]) hy.news (bv_one _) (by unfold maxLen; omega) (by omega) hb ?_
    intro v' w' h1 h2 _
    exact hK v' w' (OB.more h1 rfl) (fun B W h4 h5 h6 => OB.belowG h h6 h2 h4 h5) (Keep.row h h2)
theorem By.lits (w : World) (l : List UInt8) (hl : l.length ≤ 1000000) : By (w.alloc (.cells (bv l).toArray 5)) (.slice (some ⟨w.heap.size, 0, none⟩) l.length l.length) l := by
  refine ⟨some ⟨w.heap.size, 0, none⟩, l.length, rfl, Nat.le_refl _, by omega, fun e => (by cases e), fun _ => ⟨w.heap.size, 0, rfl, by simp, fun i hi => ?_⟩⟩
  have := new_cells w (bv l) 5 i (.int .u8 ((l.getD i 0).toNat : Int)) (by simp [bv, List.getD, hi])
  rw [add_at] at this
  rw [Nat.zero_add]
  exact this
theorem bx_below (w : World) (cs : Array Value) (t : TypeId) : Below w.heap.size w (w.alloc (.cells cs t)) := (Below.refl _ _).alloc (Nat.le_refl _) _
end Go.Proofs.YtbmondbicnfcpaaDoor
