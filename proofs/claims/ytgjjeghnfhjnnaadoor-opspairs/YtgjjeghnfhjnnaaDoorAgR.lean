/-
  Rows of operands: their cells, a row of the call's own as a slice of operands, what is appended.
-/
import Derived.Test.YtgjjeghnfhjnnaaDoorAgA
import Derived.Laws.AppendOwnNone
namespace Go.Proofs.YtgjjeghnfhjnnaaDoor
open Go.RowKit
set_option linter.unusedVariables false
set_option linter.unusedSimpArgs false

theorem Tryd.infoArg : (Tryd.prog.info? 25).map (fun i => (i.zero, i.size, i.bytes)) = some (some (.agg #[.int .i64 0, .int .i64 0, .slice none 0 0]), 3, 40) := by kernel_rfl
/-- The cells of operands. -/
def cl3 : List El → List Value
  | [] => []
  | x :: t => .int .i64 x.t :: .int .i64 x.n :: x.sl :: cl3 t
theorem cl3_len : ∀ L : List El, (cl3 L).length = L.length * 3
  | [] => rfl
  | x :: t => by simp [cl3, cl3_len t]; omega
theorem cl3_app : ∀ a b : List El, cl3 (a ++ b) = cl3 a ++ cl3 b
  | [], b => rfl
  | x :: t, b => by simp [cl3, cl3_app t b]
theorem cl3_get : ∀ (L : List El) (i : Nat) (h : i < L.length), (cl3 L)[i * 3]? = some (.int .i64 L[i].t) ∧ (cl3 L)[i * 3 + 1]? = some (.int .i64 L[i].n) ∧ (cl3 L)[i * 3 + 2]? = some L[i].sl
  | [], i, h => by simp at h
  | x :: t, 0, h => by simp [cl3]
  | x :: t, i + 1, h => by
    have := cl3_get t i (by simpa using h)
    rw [show (i + 1) * 3 = i * 3 + 1 + 1 + 1 by omega]
    simpa [cl3] using this
theorem cl3_one (L : List El) : ∀ u ∈ cl3 L, u.oneCell' = true := by
  induction L with
  | nil => intro u h; simp [cl3] at h
  | cons x t ih =>
    intro u h
    simp only [cl3, List.mem_cons] at h
    rcases h with rfl | rfl | rfl | h
    · rfl
    · rfl
    · rfl
    · exact ih u h
/-- What a slice of operands has in memory, cell by cell. -/
theorem Rw3.news {w : World} {x : Addr} {m cap : Nat} {L : List El} (h : Rw3 w (.slice (some x) m cap) L) : ∀ j u, (cl3 L)[j]? = some u → w.cell? (x.add j) = some u := by
  intro j u hu
  have hj : j < L.length * 3 := by rw [← cl3_len]; exact (List.getElem?_eq_some_iff.1 hu).1
  obtain ⟨b, off, he, -, ⟨c0, c1, c2⟩, -⟩ := h.at (j / 3) (by omega)
  injection he with he
  subst he
  obtain ⟨g0, g1, g2⟩ := cl3_get L (j / 3) (by omega)
  have ha : (⟨b, off, none⟩ : Addr).add j = ⟨b, off + j, none⟩ := by unfold Addr.add; split <;> simp_all
  rw [ha]
  rcases (show j = j / 3 * 3 ∨ j = j / 3 * 3 + 1 ∨ j = j / 3 * 3 + 2 by omega) with hj | hj | hj
  · rw [hj, g0] at hu
    rw [hj, ← hu]; exact c0
  · rw [hj, g1] at hu
    rw [hj, ← hu, ← Nat.add_assoc]; exact c1
  · rw [hj, g2] at hu
    rw [hj, ← hu, ← Nat.add_assoc]; exact c2
/-- A row of the call's own, known whole. -/
def AOwn (w : World) (base : Nat) (v : Value) (L : List El) : Prop := w.ownsRow base 25 3 v L.length (cl3 L)
theorem AOwn.nil (w : World) (base : Nat) : AOwn w base (.slice none 0 0) [] := World.ownsRow_nil _ _ _ _
theorem AOwn.rw3 {w : World} {base : Nat} {v : Value} {L : List El} (h : AOwn w base v L) (hf : ∀ x ∈ L, El.fit x) : Rw3 w v L := by
  obtain ⟨hl, ⟨rfl, hn⟩ | ⟨g, cap, cur, rfl, hbg, hg, hn, hcap, hsz, ht⟩⟩ := h
  · obtain rfl : L = [] := List.eq_nil_of_length_eq_zero hn
    exact Rw3.nil w
  · refine ⟨_, cap, rfl, hn, by simp only [maxLen] at hcap; omega, fun e => (by cases e), hf, fun h0 => ⟨g, 0, rfl, (Array.getElem?_eq_some_iff.1 hg).1, fun i hi => ?_⟩⟩
    obtain ⟨g0, g1, g2⟩ := cl3_get L i hi
    have key : ∀ j u, (cl3 L)[j]? = some u → w.cell? ⟨g, 0 + j, none⟩ = some u := by
      intro j u hu
      have hj := (List.getElem?_eq_some_iff.1 hu).1
      rw [cl3_len] at hj
      rw [← ht] at hu
      rw [List.getElem?_take_of_lt (by omega)] at hu
      rw [Nat.zero_add]
      unfold World.cell?
      simp only [hg]
      simpa using hu
    exact ⟨key _ _ g0, by have := key _ _ g1; rw [Nat.add_assoc]; exact this, by have := key _ _ g2; rw [Nat.add_assoc]; exact this⟩
theorem own_shape {w : World} {base n size : Nat} {e : TypeId} {v : Value} {xs : List Value} (h : w.ownsRow base e size v n xs) : ∃ p c, v = .slice p n c ∧ n ≤ c ∧ (c : Int) ≤ 9223372036854775807 := by
  obtain ⟨hl, ⟨rfl, hn⟩ | ⟨g, cap, cur, rfl, hbg, hg, hn, hcap, hsz, ht⟩⟩ := h
  · subst hn
    exact ⟨none, 0, rfl, Nat.le_refl _, by decide⟩
  · exact ⟨_, _, rfl, hn, by simp only [maxLen] at hcap; omega⟩
/-- A row says nothing of other blocks than those from its base on. -/
theorem own_same {w w' : World} {base n size : Nat} {e : TypeId} {v : Value} {xs : List Value} (h : w.ownsRow base e size v n xs) (hs : ∀ b, base ≤ b → b < w.heap.size → w'.heap[b]? = w.heap[b]?) : w'.ownsRow base e size v n xs := by
  obtain ⟨hl, h | ⟨g, cap, cur, h1, hbg, hg, h2⟩⟩ := h
  · exact ⟨hl, .inl h⟩
  · exact ⟨hl, .inr ⟨g, cap, cur, h1, hbg, by rw [hs g hbg (Array.getElem?_eq_some_iff.1 hg).1]; exact hg, h2⟩⟩
theorem step_append_row {P : Program} {ops : Array Oper} {o : Oper} {a : Act} {w : World} {K : Act → World → Prop} {Q : Exit → Act → World → Prop} {E : Prop}
    (hg : o.guard = none) (s x : Operand) (t : TypeId) (hop : o.op = Op.call { callee := Callee.builtin Builtin.append, args := #[s, x], argTypes := #[t, t] })
    (base : Nat) (e : TypeId) (i : TypeInfo) (z : Value) (size bytes : Nat) (h1 : P.underlying t = some (.slice e)) (h2 : P.info? e = some i) (h3 : i.zero = some z) (h4 : i.size = size) (h5 : i.bytes = bytes) (h6 : z.cells.size = size) (h7 : 0 < size)
    (v : Value) (n : Nat) (xs : List Value) (hs : a.eval s = v) (hown : w.ownsRow base e size v n xs)
    (ad : Addr) (m c : Nat) (news : List Value) (hx : a.eval x = .slice (some ad) m c) (hn : news.length = m * size) (hc : ∀ j u, news[j]? = some u → w.cell? (ad.add j) = some u) (h1c : ∀ u ∈ news, u.oneCell' = true)
    (b1 : n + m ≤ maxLen) (b2 : (n + m) * bytes ≤ 140737488355328) (hb : base ≤ w.heap.size)
    (hK : ∀ v' w', w'.ownsRow base e size v' (n + m) (xs ++ news) → w.grownBy w' v.ownBlock → K (a.put o.dst v') w') :
    if Region.wanted o (yielded ops a.tmps) = true then Oper.wp P o a w K Q else E := by
  have hw : Region.wanted o (yielded ops a.tmps) = true := by simp [Region.wanted, hg]
  rw [if_pos hw]
  obtain ⟨v', w', hrun, r1, r2, _⟩ := run_append_own (P := P) w base t o.type e i z size bytes h1 h2 h3 h4 h5 h6 h7 v n xs hown ad m c news hn hc h1c b1 b2 hb
  unfold Oper.wp
  simp [execOp, hop, resolve, invoke, builtin, hs, hx, hrun, Result.andThen]
  exact hK v' w' r1 r2
theorem below_new {w w' : World} (hg : w.grownBy w' (Value.slice none 0 0).ownBlock) : Below w.heap.size w w' := (Below.refl _ _).grown hg (Nat.le_refl _) (fun k hk => by simp [Value.ownBlock] at hk)
theorem arg_load {w : World} {g : Nat} {t n : Int} {sl : Value} (h : BxA w g t n sl) : (loadVar 25 ⟨g, 0, none⟩).run Tryd.prog w = .ok (agV t n sl) w := by
  obtain ⟨c0, c1, c2, -⟩ := h.facts
  simp [loadVar, go_sem, c0, c1, c2, agV]
theorem results_arg {fn : Func} {q : Tmp} (h : fn.results = #[.cell q 25]) (tmps : Array Value) (w : World) (g : Nat) (t n : Int) (sl : Value) (hq : tmps.getD q undef = .pointer (some ⟨g, 0, none⟩)) (hb : BxA w g t n sl) :
    (results fn tmps).run Tryd.prog w = .ok (agV t n sl) w := by
  have hl := arg_load hb
  simp only [Array.getD_eq_getD_getElem?] at hq
  simp only [results, h]
  simp [hq, asAddr, hl]
end Go.Proofs.YtgjjeghnfhjnnaaDoor
