/-
  A slice that may be appended to: a row of the call's own, or bytes without spare room; numbers below 0 as four bytes.
-/
import Derived.Test.YtfjibcldghnjcaaDoorByBase
import Derived.ArgAppend
namespace Go.Proofs.YtfjibcldghnjcaaDoor
open Go.RowKit
set_option linter.unusedVariables false
set_option linter.unusedSimpArgs false

theorem OB.base {w : World} {B B' : Nat} {v : Value} {l : List UInt8} (h : OB w B v l) (hb : B' ≤ B) : OB w B' v l := by
  obtain ⟨h1, h2⟩ := h
  refine ⟨h1, ?_⟩
  rcases h2 with h3 | ⟨g, cap, cur, rfl, hb1, h4⟩
  · exact .inl h3
  · exact .inr ⟨g, cap, cur, rfl, Nat.le_trans hb hb1, h4⟩

/-- A slice to be appended to. -/
def RB (w : World) (base : Nat) (v : Value) (l : List UInt8) : Prop := OB w base v l ∨ (By w v l ∧ ∃ a, v = .slice a l.length l.length)
theorem RB.by {w : World} {base : Nat} {v : Value} {l : List UInt8} (h : RB w base v l) : By w v l := by
  rcases h with h | h
  · exact h.by
  · exact h.1
theorem RB.under {w w' : World} {base : Nat} {v : Value} {l : List UInt8} (h : RB w base v l) (hb : Below w.heap.size w w') : RB w' base v l := by
  rcases h with h | ⟨h, he⟩
  · exact .inl (h.under hb)
  · exact .inr ⟨h.under hb, he⟩

/-- All that is no row of bytes stands as it was. -/
def Keep (w w' : World) : Prop := w.heap.size ≤ w'.heap.size ∧ ∀ (g : Nat) (o : Obj), w.heap[g]? = some o → (∀ cs, o ≠ .cells cs 5 (0, 0)) → w'.heap[g]? = some o
theorem Keep.refl (w : World) : Keep w w := ⟨Nat.le_refl _, fun _ _ h _ => h⟩
theorem Keep.trans {a b c : World} (h : Keep a b) (k : Keep b c) : Keep a c := ⟨Nat.le_trans h.1 k.1, fun g o h1 h2 => k.2 g o (h.2 g o h1 h2) h2⟩
theorem Keep.below {w w' : World} (h : Below w.heap.size w w') : Keep w w' := ⟨h.size, fun g o h1 _ => by rw [h.block g (Array.getElem?_eq_some_iff.1 h1).1]; exact h1⟩
theorem Keep.alloc (w : World) (o : Obj) : Keep w (w.alloc o) := Keep.below ((Below.refl _ _).alloc (Nat.le_refl _) o)
theorem Keep.none {w w' : World} (h : w.grownBy w' none) : Keep w w' := ⟨h.size, fun g o h1 _ => by rw [h.block g (Array.getElem?_eq_some_iff.1 h1).1 (by simp)]; exact h1⟩
theorem Keep.row {w w' : World} {base : Nat} {v : Value} {l : List UInt8} (h : OB w base v l) (hg : w.grownBy w' v.ownBlock) : Keep w w' := by
  refine ⟨hg.size, fun g o h1 h2 => ?_⟩
  rw [hg.block g (Array.getElem?_eq_some_iff.1 h1).1 ?_]
  · exact h1
  · rcases h.2 with ⟨rfl, _⟩ | ⟨g', cap, cur, rfl, _, hh, _⟩
    · simp [Value.ownBlock]
    · intro e
      simp only [Value.ownBlock, Option.some.injEq] at e
      subst e
      rw [h1] at hh
      injection hh with hh
      exact h2 cur hh

set_option maxRecDepth 100000 in
/-- One or more bytes behind it: a row of the call's own. -/
theorem run_append_rb (w : World) (base : Nat) (ty : TypeId) (v : Value) (l : List UInt8) (h : RB w base v l) (hl : l.length ≤ 1000000000) (hb : base ≤ w.heap.size)
    (ad : Addr) (m c : Nat) (news : List UInt8) (h0 : 0 < m) (hm : m ≤ 1000000000) (hn : news.length = m) (hc : ∀ j u, (bv news)[j]? = some u → w.cell? (ad.add j) = some u) :
    ∃ v' w', (Builtin.append_ #[42, 42] ty #[v, .slice (some ad) m c]).run Tryd.prog w = .ok v' w' ∧ OB w' base v' (l ++ news) ∧ (∀ B W, B ≤ w.heap.size → B ≤ base → Below B W w → Below B W w') ∧ Keep w w' := by
  obtain ⟨i, hi, hz0, hz1, hz2⟩ := info_parts Tryd.infoB
  rcases h with h | ⟨hy, a, rfl⟩
  · obtain ⟨v', w', hr, h2, h3, _⟩ := run_append_own (P := Tryd.prog) w base 42 ty 5 i (.int .u8 0) 1 1 Tryd.underlying42 hi hz0 hz1 hz2 rfl (by decide) v l.length (bv l) h ad m c (bv news) (by rw [bv_len, hn, Nat.mul_one]) hc (bv_one _) (by unfold maxLen; omega) (by omega) hb
    exact ⟨v', w', hr, OB.more h2 (by rw [hn]), fun B W h4 h5 h6 => OB.belowG h h6 h3 h4 h5, Keep.row h h3⟩
  · cases a with
    | none =>
      obtain ⟨a', c', he, -, -, hz, -⟩ := hy
      injection he with e1 e2 e3
      have hl0 : l.length = 0 := by have := hz e1.symm; omega
      obtain rfl : l = [] := List.eq_nil_of_length_eq_zero hl0
      obtain ⟨v', w', hr, h2, h3, _⟩ := run_append_own (P := Tryd.prog) w base 42 ty 5 i (.int .u8 0) 1 1 Tryd.underlying42 hi hz0 hz1 hz2 rfl (by decide) (.slice none 0 0) 0 [] (World.ownsRow_nil _ _ _ _) ad m c (bv news) (by rw [bv_len, hn, Nat.mul_one]) hc (bv_one _) (by unfold maxLen; omega) (by omega) hb
      refine ⟨v', w', hr, ?_, fun B W h4 h5 h6 => h6.grown h3 h4 (fun j hj => by cases hj), Keep.none h3⟩
      unfold OB
      rw [List.nil_append, hn]
      simpa using h2
    | some b =>
      have holds : ∀ j u, (bv l)[j]? = some u → w.cell? (b.add j) = some u := by
        intro j u hu
        have hj : j < l.length := by
          have := (List.getElem?_eq_some_iff.1 hu).1
          rwa [bv_len] at this
        obtain ⟨b', off', he, -, hcell⟩ := hy.at j hj
        injection he with he
        subst he
        rw [show (⟨b', off', none⟩ : Addr).add j = ⟨b', off' + j, none⟩ by unfold Addr.add; split <;> simp_all, hcell j hj]
        simp [bv, hj] at hu
        simp [List.getD, hj, hu]
      obtain ⟨v', w', hr, r1, r2⟩ := run_append_arg_grows (P := Tryd.prog) w 42 ty 5 i (.int .u8 0) 1 1 Tryd.underlying42 hi hz0 hz1 hz2 rfl (by decide) b l.length l.length (bv l) (by rw [bv_len, Nat.mul_one]) holds ad m c (bv news) (by rw [bv_len, hn, Nat.mul_one]) hc (by omega) (by unfold maxLen; omega) (by omega)
      exact ⟨v', w', hr, OB.base (OB.more r1 (by rw [hn])) hb, fun B W h4 h5 h6 => h6.grown r2 h4 (fun j hj => by cases hj), Keep.none r2⟩

set_option maxRecDepth 100000 in
/-- .. at the operation. -/
theorem wpList_append_rb {w : World} {ops : Array Oper} {rest : List Oper} {o : Oper} {a : Act} {Q : Exit → Act → World → Prop} (hgd : o.guard = none) (s x : Operand)
    (ho : o.op = .call { callee := .builtin .append, args := #[s, x], argTypes := #[42, 42] }) (base : Nat) (v : Value) (l : List UInt8) (hs : a.eval s = v) (h : RB w base v l) (hl : l.length ≤ 1000000000) (hb : base ≤ w.heap.size)
    (ad : Addr) (m c : Nat) (news : List UInt8) (hx : a.eval x = .slice (some ad) m c) (h0 : 0 < m) (hm : m ≤ 1000000000) (hn : news.length = m) (hc : ∀ j u, (bv news)[j]? = some u → w.cell? (ad.add j) = some u)
    (hK : ∀ v' w', OB w' base v' (l ++ news) → (∀ B W, B ≤ w.heap.size → B ≤ base → Below B W w → Below B W w') → Keep w w' → wpList Tryd.prog ops Q rest (a.put o.dst v') w') : wpList Tryd.prog ops Q (o :: rest) a w := by
  obtain ⟨v', w', hr, h1, h2, h3⟩ := run_append_rb w base o.type v l h hl hb ad m c news h0 hm hn hc
  refine wpList_plain hgd fun K hK' => ?_
  unfold Oper.wp
  simp [execOp, ho, resolve, invoke, builtin, hs, hx, hr, Result.andThen]
  exact hK' _ _ (hK v' w' h1 h2 h3)

/-- A number as one of 32 bits. -/
def u32of (v : Int) : Nat := (v % 4294967296).toNat
theorem four_valsI (v : Int) (h0 : -2147483648 ≤ v) (h1 : v ≤ 4294967295) : bv (four (u32of v)) = [Value.int .u8 (v / 16777216 % 256), Value.int .u8 (v / 65536 % 256), Value.int .u8 (v / 256 % 256), Value.int .u8 (v % 256)] := by
  have e : ((u32of v : Nat) : Int) = v % 4294967296 := by unfold u32of; omega
  simp only [bv, four, List.map_cons, List.map_nil, ← u8v]
  simp only [Int.natCast_ediv, e]
  simp
  omega
end Go.Proofs.YtfjibcldghnjcaaDoor
