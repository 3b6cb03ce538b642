import Derived.Test.YtfjibcldghnjcaaDoorAgA
import Derived.Laws.AppendOwnNone
import Derived.Maps.AppendAt
import Derived.Deep.AppendLies
/-
  Rows of operands: their cells, a row of the call's own as a slice of operands, what is appended.
-/
namespace Go.Proofs.YtfjibcldghnjcaaDoor
open Go.RowKit
set_option linter.unusedVariables false
set_option linter.unusedSimpArgs false

theorem Tryd.infoArg : (Tryd.prog.info? 30).map (fun i => (i.zero, i.size, i.bytes)) = some (some (.agg #[.int .i64 0, .int .i64 0, .slice none 0 0]), 3, 40) := by kernel_rfl
/-- The cells of operands. -/
def cl3 : List El → List Value
  | [] => []
  | x :: t => .int .i64 x.t :: .int .i64 x.n :: x.sl :: cl3 t
theorem cl3_len : ∀ L : List El, (cl3 L).length = L.length * 3
  | [] => rfl
  | x :: t => by simp [cl3, cl3_len t]; omega
theorem cl3_app : ∀ a b : List El, cl3 (a ++ b) = cl3 a ++ cl3 b
  | [], b => rfl
  | x :: t, b => by simp [cl3, cl3_app t b]
theorem cl3_get : ∀ (L : List El) (i : Nat) (h : i < L.length), (cl3 L)[i * 3]? = some (.int .i64 L[i].t) ∧ (cl3 L)[i * 3 + 1]? = some (.int .i64 L[i].n) ∧ (cl3 L)[i * 3 + 2]? = some L[i].sl
  | [], i, h => by simp at h
  | x :: t, 0, h => by simp [cl3]
  | x :: t, i + 1, h => by
    have := cl3_get t i (by simpa using h)
    rw [show (i + 1) * 3 = i * 3 + 1 + 1 + 1 by omega]
    simpa [cl3] using this
theorem cl3_one (L : List El) : ∀ u ∈ cl3 L, u.oneCell' = true := by
  induction L with
  | nil => intro u h; simp [cl3] at h
  | cons x t ih =>
    intro u h
    simp only [cl3, List.mem_cons] at h
    rcases h with rfl | rfl | rfl | h
    · rfl
    · rfl
    · rfl
    · exact ih u h
/-- What a slice of operands has in memory, cell by cell. -/
theorem Rw3.news {w : World} {x : Addr} {m cap : Nat} {L : List El} (h : Rw3 w (.slice (some x) m cap) L) : ∀ j u, (cl3 L)[j]? = some u → w.cell? (x.add j) = some u := by
  intro j u hu
  have hj : j < L.length * 3 := by rw [← cl3_len]; exact (List.getElem?_eq_some_iff.1 hu).1
  obtain ⟨b, off, he, -, ⟨c0, c1, c2⟩, -⟩ := h.at (j / 3) (by omega)
  injection he with he
  subst he
  obtain ⟨g0, g1, g2⟩ := cl3_get L (j / 3) (by omega)
  have ha : (⟨b, off, none⟩ : Addr).add j = ⟨b, off + j, none⟩ := by unfold Addr.add; split <;> simp_all
  rw [ha]
  rcases (show j = j / 3 * 3 ∨ j = j / 3 * 3 + 1 ∨ j = j / 3 * 3 + 2 by omega) with hj | hj | hj
  · rw [hj, g0] at hu
    rw [hj, ← hu]; exact c0
  · rw [hj, g1] at hu
    rw [hj, ← hu, ← Nat.add_assoc]; exact c1
  · rw [hj, g2] at hu
    rw [hj, ← hu, ← Nat.add_assoc]; exact c2
/-- A row of the call's own, known whole. -/
def AOwn (w : World) (base : Nat) (v : Value) (L : List El) : Prop := w.ownsRow base 30 3 v L.length (cl3 L)
theorem AOwn.nil (w : World) (base : Nat) : AOwn w base (.slice none 0 0) [] := World.ownsRow_nil _ _ _ _
theorem AOwn.rw3 {w : World} {base : Nat} {v : Value} {L : List El} (h : AOwn w base v L) (hf : ∀ x ∈ L, El.fit x) : Rw3 w v L := by
  obtain ⟨hl, ⟨rfl, hn⟩ | ⟨g, cap, cur, rfl, hbg, hg, hn, hcap, hsz, ht⟩⟩ := h
  · obtain rfl : L = [] := List.eq_nil_of_length_eq_zero hn
    exact Rw3.nil w
  · refine ⟨_, cap, rfl, hn, by simp only [maxLen] at hcap; omega, fun e => (by cases e), hf, fun h0 => ⟨g, 0, rfl, (Array.getElem?_eq_some_iff.1 hg).1, fun i hi => ?_⟩⟩
    obtain ⟨g0, g1, g2⟩ := cl3_get L i hi
    have key : ∀ j u, (cl3 L)[j]? = some u → w.cell? ⟨g, 0 + j, none⟩ = some u := by
      intro j u hu
      have hj := (List.getElem?_eq_some_iff.1 hu).1
      rw [cl3_len] at hj
      rw [← ht] at hu
      rw [List.getElem?_take_of_lt (by omega)] at hu
      rw [Nat.zero_add]
      unfold World.cell?
      simp only [hg]
      simpa using hu
    exact ⟨key _ _ g0, by have := key _ _ g1; rw [Nat.add_assoc]; exact this, by have := key _ _ g2; rw [Nat.add_assoc]; exact this⟩
theorem own_shape {w : World} {base n size : Nat} {e : TypeId} {v : Value} {xs : List Value} (h : w.ownsRow base e size v n xs) : ∃ p c, v = .slice p n c ∧ n ≤ c ∧ (c : Int) ≤ 9223372036854775807 := by
  obtain ⟨hl, ⟨rfl, hn⟩ | ⟨g, cap, cur, rfl, hbg, hg, hn, hcap, hsz, ht⟩⟩ := h
  · subst hn
    exact ⟨none, 0, rfl, Nat.le_refl _, by decide⟩
  · exact ⟨_, _, rfl, hn, by simp only [maxLen] at hcap; omega⟩
/-- A row says nothing of other blocks than those from its base on. -/
theorem own_same {w w' : World} {base n size : Nat} {e : TypeId} {v : Value} {xs : List Value} (h : w.ownsRow base e size v n xs) (hs : ∀ b, base ≤ b → b < w.heap.size → w'.heap[b]? = w.heap[b]?) : w'.ownsRow base e size v n xs := by
  obtain ⟨hl, h | ⟨g, cap, cur, h1, hbg, hg, h2⟩⟩ := h
  · exact ⟨hl, .inl h⟩
  · exact ⟨hl, .inr ⟨g, cap, cur, h1, hbg, by rw [hs g hbg (Array.getElem?_eq_some_iff.1 hg).1]; exact hg, h2⟩⟩
theorem step_append_row {P : Program} {ops : Array Oper} {o : Oper} {a : Act} {w : World} {K : Act → World → Prop} {Q : Exit → Act → World → Prop} {E : Prop}
    (hg : o.guard = none) (s x : Operand) (t : TypeId) (hop : o.op = Op.call { callee := Callee.builtin Builtin.append, args := #[s, x], argTypes := #[t, t] })
    (base : Nat) (e : TypeId) (i : TypeInfo) (z : Value) (size bytes : Nat) (h1 : P.underlying t = some (.slice e)) (h2 : P.info? e = some i) (h3 : i.zero = some z) (h4 : i.size = size) (h5 : i.bytes = bytes) (h6 : z.cells.size = size) (h7 : 0 < size)
    (v : Value) (n : Nat) (xs : List Value) (hs : a.eval s = v) (hown : w.ownsRow base e size v n xs)
    (ad : Addr) (m c : Nat) (news : List Value) (hx : a.eval x = .slice (some ad) m c) (hn : news.length = m * size) (hc : ∀ j u, news[j]? = some u → w.cell? (ad.add j) = some u) (h1c : ∀ u ∈ news, u.oneCell' = true)
    (b1 : n + m ≤ maxLen) (b2 : (n + m) * bytes ≤ 140737488355328) (hb : base ≤ w.heap.size)
    (hK : ∀ v' w', w'.ownsRow base e size v' (n + m) (xs ++ news) → w.grownBy w' v.ownBlock → K (a.put o.dst v') w') :
    if Region.wanted o (yielded ops a.tmps) = true then Oper.wp P o a w K Q else E := by
  have hw : Region.wanted o (yielded ops a.tmps) = true := by simp [Region.wanted, hg]
  rw [if_pos hw]
  obtain ⟨v', w', hrun, r1, r2, _⟩ := run_append_own (P := P) w base t o.type e i z size bytes h1 h2 h3 h4 h5 h6 h7 v n xs hown ad m c news hn hc h1c b1 b2 hb
  unfold Oper.wp
  simp [execOp, hop, resolve, invoke, builtin, hs, hx, hrun, Result.andThen]
  exact hK v' w' r1 r2
theorem below_new {w w' : World} (hg : w.grownBy w' (Value.slice none 0 0).ownBlock) : Below w.heap.size w w' := (Below.refl _ _).grown hg (Nat.le_refl _) (fun k hk => by simp [Value.ownBlock] at hk)
theorem arg_load {w : World} {g : Nat} {t n : Int} {sl : Value} (h : BxA w g t n sl) : (loadVar 30 ⟨g, 0, none⟩).run Tryd.prog w = .ok (agV t n sl) w := by
  obtain ⟨c0, c1, c2, -⟩ := h.facts
  simp [loadVar, go_sem, c0, c1, c2, agV]
theorem results_arg {fn : Func} {q : Tmp} (h : fn.results = #[.cell q 30]) (tmps : Array Value) (w : World) (g : Nat) (t n : Int) (sl : Value) (hq : tmps.getD q undef = .pointer (some ⟨g, 0, none⟩)) (hb : BxA w g t n sl) :
    (results fn tmps).run Tryd.prog w = .ok (agV t n sl) w := by
  have hl := arg_load hb
  simp only [Array.getD_eq_getD_getElem?] at hq
  simp only [results, h]
  simp [hq, asAddr, hl]
end Go.Proofs.YtfjibcldghnjcaaDoor


/-
  relictlaw00.Arg, Args: operands anew in new memory; FewArgs, telling.
-/
namespace Go.Proofs.YtfjibcldghnjcaaDoor
open Go.RowKit
set_option linter.unusedVariables false
set_option linter.unusedSimpArgs false

theorem box_bel (w : World) (c : Array Value) (t : TypeId) : Below w.heap.size w (w.alloc (.cells c t)) := (Below.refl _ _).alloc (Nat.le_refl _) _
/-- A value that reads as a tree, all of whose lists lie in blocks of P. -/
def isGFP (w : World) (P : Nat → Prop) (a : Ag) (Ks : List (Value → Prop)) (v : Value) : Prop :=
  ∃ (p : Option Addr) (cap : Nat) (L : List El), v = agV a.t a.n (.slice p Ks.length cap) ∧ El.fit ⟨a.t, a.n, p, Ks.length, cap⟩ ∧ L.length = Ks.length ∧ Rw3 w (.slice p Ks.length cap) L ∧ (∀ x, p = some x → P x.block ∧ x.block < w.heap.size) ∧ ∀ i (h : i < Ks.length) (h' : i < L.length), Ks[i] (L[i].v)
def IsGP (w : World) (P : Nat → Prop) : Ag → Value → Prop := Ag.fold (isGFP w P)
theorem isGP_mk (w : World) (P : Nat → Prop) (t n : Int) (K : List Ag) (v : Value) : IsGP w P (.mk t n K) v ↔
    ∃ (p : Option Addr) (cap : Nat) (L : List El), v = agV t n (.slice p K.length cap) ∧ El.fit ⟨t, n, p, K.length, cap⟩ ∧ L.length = K.length ∧ Rw3 w (.slice p K.length cap) L ∧ (∀ x, p = some x → P x.block ∧ x.block < w.heap.size) ∧ ∀ i (h : i < K.length) (h' : i < L.length), IsGP w P K[i] (L[i].v) := by
  unfold IsGP
  rw [Ag.fold_mk]
  unfold isGFP
  simp only [List.length_map, List.getElem_map]
theorem IsGP.ind {w : World} {P : Nat → Prop} {R : Ag → Value → Prop} (h : ∀ (t n : Int) (K : List Ag) (p : Option Addr) (cap : Nat) (L : List El), El.fit ⟨t, n, p, K.length, cap⟩ → L.length = K.length → Rw3 w (.slice p K.length cap) L → (∀ x, p = some x → P x.block ∧ x.block < w.heap.size) →
      (∀ i (h : i < K.length) (h' : i < L.length), R K[i] (L[i].v)) → R (.mk t n K) (agV t n (.slice p K.length cap))) : ∀ (a : Ag) (v : Value), IsGP w P a v → R a v :=
  Ag.ind (P := fun a => ∀ v, IsGP w P a v → R a v) (fun t n K ih v hv => by
    obtain ⟨p, cap, L, rfl, hf, hl, hr, hp, hk⟩ := (isGP_mk ..).1 hv
    exact h t n K p cap L hf hl hr hp (fun i hi hi' => ih _ (List.getElem_mem hi) _ (hk i hi hi')))
theorem IsGP.isG {w : World} {P : Nat → Prop} {a : Ag} {v : Value} (h : IsGP w P a v) : IsG w a v :=
  IsGP.ind (R := fun a v => IsG w a v) (fun t n K p cap L hf hl hr hp ih => (isG_mk ..).2 ⟨p, cap, L, rfl, hf, hl, hr, ih⟩) a v h
theorem Rw3.move {w w' : World} {p : Option Addr} {m cap : Nat} {L : List El} (h : Rw3 w (.slice p m cap) L) (hsz : w.heap.size ≤ w'.heap.size) (hs : ∀ x, p = some x → x.block < w.heap.size → w'.heap[x.block]? = w.heap[x.block]?) : Rw3 w' (.slice p m cap) L := by
  obtain ⟨a, c, he, hl, hc, hn, hf, hp⟩ := h
  injection he with e1 e2 e3
  subst e1; subst e2; subst e3
  refine ⟨p, cap, rfl, hl, hc, hn, hf, fun h0 => ?_⟩
  obtain ⟨b, off, rfl, hlt, hcell⟩ := hp h0
  refine ⟨b, off, rfl, by omega, fun i hi => ?_⟩
  obtain ⟨c0, c1, c2⟩ := hcell i hi
  have hb : w'.heap[b]? = w.heap[b]? := hs ⟨b, off, none⟩ rfl hlt
  have e : ∀ o, w'.cell? ⟨b, o, none⟩ = w.cell? ⟨b, o, none⟩ := fun o => World.cell?_of_block (a := ⟨b, o, none⟩) hb
  exact ⟨by rw [e]; exact c0, by rw [e]; exact c1, by rw [e]; exact c2⟩
theorem IsGP.move {w w' : World} {P Q : Nat → Prop} {a : Ag} {v : Value} (h : IsGP w P a v) (hsz : w.heap.size ≤ w'.heap.size) (hs : ∀ b, P b → b < w.heap.size → w'.heap[b]? = w.heap[b]?) (hPQ : ∀ b, P b → b < w.heap.size → Q b) : IsGP w' Q a v := by
  refine IsGP.ind (R := fun a v => IsGP w' Q a v) (fun t n K p cap L hf hl hr hp ih => ?_) a v h
  exact (isGP_mk ..).2 ⟨p, cap, L, rfl, hf, hl, hr.move hsz (fun x hx hlt => hs _ (hp x hx).1 hlt), fun x hx => ⟨hPQ _ (hp x hx).1 (hp x hx).2, by have := (hp x hx).2; omega⟩, ih⟩

/-- No list is longer than 60. -/
def fewAll : Ag → Bool := Ag.fold (fun a l => decide (a.kids.length ≤ 60) && l.all id)
theorem fewAll_mk (t n : Int) (K : List Ag) : fewAll (.mk t n K) = (decide (K.length ≤ 60) && K.all fewAll) := by
  unfold fewAll
  rw [Ag.fold_mk]
  simp [List.all_map, Function.comp_def]
/-- A copy of operands: a row of the call's own; what its operands are made of lies elsewhere in new memory. -/
def CpSt (w : World) (K : List Ag) (v : Value) (L : List El) (wr : World) : Prop :=
  AOwn wr w.heap.size v L ∧ L.length ≤ K.length ∧ (∀ x ∈ L, El.fit x) ∧ (∀ i (h : i < K.length) (h' : i < L.length), IsGP wr (fun b => w.heap.size ≤ b ∧ v.ownBlock ≠ some b) K[i] (L[i].v)) ∧ Below w.heap.size w wr
theorem CpSt.gs {w wr : World} {K : List Ag} {v : Value} {L : List El} (h : CpSt w K v L wr) (hl : L.length = K.length) : Gs wr v K := by
  obtain ⟨h1, h2, h3, h4, h5⟩ := h
  have hr := h1.rw3 h3
  obtain ⟨p, c, rfl, -⟩ := own_shape h1
  exact ⟨p, c, L, by rw [hl], hl, hr, fun i a b => (h4 i a b).isG⟩
theorem CpSt.push {w wr w1 w5 : World} {K : List Ag} {v v5 : Value} {L : List El} {x : El} {lit : Obj} (h : CpSt w K v L wr) (hk : L.length < K.length) (hb : Below wr.heap.size wr w1) (hf : x.fit) (hx : IsGP w1 (fun b => wr.heap.size ≤ b) (K[L.length]'hk) x.v)
    (hown : w5.ownsRow w.heap.size 30 3 v5 (L.length + 1) (cl3 L ++ [.int .i64 x.t, .int .i64 x.n, x.sl])) (hgr : (w1.alloc lit).grownBy w5 v.ownBlock) (hloc : v5.ownBlock = v.ownBlock ∨ v5.ownBlock = some (w1.alloc lit).heap.size) : CpSt w K v5 (L ++ [x]) w5 := by
  obtain ⟨h1, h2, h3, h4, h5⟩ := h
  have hsz : (w1.alloc lit).heap.size = w1.heap.size + 1 := by simp
  have hb1 := hb.size
  have hb0 := h5.size
  have ba := (Below.refl w1.heap.size w1).alloc (Nat.le_refl _) lit
  have hrow : ∀ j, v.ownBlock = some j → w.heap.size ≤ j ∧ j < wr.heap.size := fun j hj => World.ownsRow.lt h1 j hj
  have hgs : (w1.alloc lit).heap.size ≤ w5.heap.size := hgr.size
  have hkeep : ∀ b, b < w1.heap.size → v.ownBlock ≠ some b → w5.heap[b]? = w1.heap[b]? := by
    intro b hlt hne
    rw [hgr.block b (by omega) (fun e => hne e.symm), ba.block b hlt]
  refine ⟨?_, by simp; omega, ?_, ?_, ?_⟩
  · unfold AOwn
    rw [cl3_app, List.length_append]
    simpa [cl3] using hown
  · intro y hy
    rcases List.mem_append.1 hy with hy | hy
    · exact h3 y hy
    · simp only [List.mem_singleton] at hy
      subst hy; exact hf
  · intro i hi hi'
    by_cases hL : i < L.length
    · rw [List.getElem_append_left hL]
      refine (h4 i hi hL).move (by omega) (fun b hP hlt => ?_) (fun b hP hlt => ⟨hP.1, ?_⟩)
      · rw [hkeep b (by omega) hP.2, hb.block b hlt]
      · rcases hloc with e | e
        · rw [e]; exact hP.2
        · rw [e]; intro e2; injection e2 with e2; omega
    · have hiL : i = L.length := by simp at hi'; omega
      subst hiL
      rw [List.getElem_append_right (Nat.le_refl _)]
      simp only [Nat.sub_self, List.getElem_cons_zero]
      have hnb : ∀ b, wr.heap.size ≤ b → v.ownBlock ≠ some b := fun b hP e => by have := (hrow b e).2; omega
      refine hx.move (by omega) (fun b hP hlt => hkeep b hlt (hnb b hP)) (fun b hP hlt => ⟨by omega, ?_⟩)
      rcases hloc with e | e
      · rw [e]; exact hnb b hP
      · rw [e]; intro e2; injection e2 with e2; omega
  · exact ((h5.trans (hb.mono h5.size)).trans (ba.mono (by omega))).grown hgr (by omega) (fun j hj => (hrow j hj).1)
def ArgPost (w : World) (a : Ag) (e : Ending) (w' : World) : Prop := ∃ x : El, e = .returned x.v ∧ x.fit ∧ IsGP w' (fun b => w.heap.size ≤ b) a x.v ∧ Below w.heap.size w w'
def ArgsPost (w : World) (K : List Ag) (e : Ending) (w' : World) : Prop := ∃ v L, e = .returned v ∧ CpSt w K v L w' ∧ L.length = K.length
end Go.Proofs.YtfjibcldghnjcaaDoor
