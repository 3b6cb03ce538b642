
/-
  relictref11: the document's own answer of layer 11.
-/
import Derived.Test.YtgdlilgkbjiiaaaArZ
import Derived.Test.YtgdlilgkbjiiaaaWordR
import Derived.Deep.QuietTactic
namespace Go.Proofs.Ytgdlilgkbjiiaaa
open Go.RowKit
set_option linter.unusedVariables false
set_option linter.unusedSimpArgs false

/-- The document's arena: its box q; its words are a row of blocks from base on. -/
structure Ra (w : World) (q base : Nat) (v : Value) (W : List Int) (S : Nat) : Prop where
  mk ::
  box : w.heap[q]? = some (.cells #[.int .i64 (S : Int), v] 37 (0, 0))
  own : Oq w base v W
  fit : W.length ≤ S
  lim : S ≤ 32768
  ok : Q8 W
  qb : q < base
  bs : base ≤ w.heap.size
theorem Ra.facts {w : World} {q base S : Nat} {v : Value} {W : List Int} (h : Ra w q base v W S) : w.cell? ⟨q, 0, none⟩ = some (.int .i64 (S : Int)) ∧ w.cell? ⟨q, 1, none⟩ = some v ∧ w.frozen? ⟨q, 1, none⟩ = false := by
  have := h.box
  refine ⟨?_, ?_, ?_⟩ <;> simp [World.cell?, World.frozen?, this]
theorem Ra.shape {w : World} {q base S : Nat} {v : Value} {W : List Int} (h : Ra w q base v W S) : ∃ a cap, v = .slice a W.length cap := by
  obtain ⟨-, h2⟩ := h.own
  rcases h2 with ⟨rfl, h3⟩ | ⟨g, cap, cur, rfl, -⟩
  · exact ⟨none, 0, by rw [h3]⟩
  · exact ⟨_, _, rfl⟩
theorem Ra.at {w : World} {q base S : Nat} {v : Value} {W : List Int} (h : Ra w q base v W S) (i : Nat) (hi : i < W.length) : ∃ g cap, v = .slice (some ⟨g, 0, none⟩) W.length cap ∧ base ≤ g ∧ w.cell? ⟨g, i, none⟩ = some (.int .u64 (W.getD i 0)) ∧ w.frozen? ⟨g, i, none⟩ = false ∧
    ∀ x, 0 ≤ x ∧ x < 18446744073709551616 → Ra (w.setCell ⟨g, i, none⟩ (.int .u64 x)) q base v (W.set i x) S := by
  have hs := h.own.sq h.ok
  obtain ⟨h1, h2⟩ := h.own
  rcases h2 with ⟨rfl, h3⟩ | ⟨g, cap, cur, rfl, hb, hh, hn, hm, hsz, ht⟩
  · omega
  · refine ⟨g, cap, rfl, hb, ?_, ?_, fun x hx => ⟨?_, ⟨by simp [uv], .inr ⟨g, cap, cur.set! i (.int .u64 x), by rw [List.length_set], hb, ?_, by rw [List.length_set]; exact hn, hm, by simpa using hsz, ?_⟩⟩, by rw [List.length_set]; exact h.fit, h.lim, h.ok.set i x hx, h.qb, by simp [World.setCell]; exact h.bs⟩⟩
    · obtain ⟨-, a, c, he, -, -, -, hp⟩ := hs
      injection he with e1 _ _
      obtain ⟨g', off, e, -, hc⟩ := hp (by omega)
      rw [← e1] at e
      injection e with e
      injection e with e2 e3 _
      subst e2; subst e3
      simpa using hc i hi
    · simp [World.frozen?, hh]
    · rw [heap_set_ne _ _ _ _ _ (show q ≠ g by have := h.qb; omega), h.box]
    · have hi2 : i < cur.size := by omega
      simp [World.setCell, Array.getElem?_modify, hh, Array.set!_eq_setIfInBounds]
    · simp only [Nat.mul_one] at ht ⊢
      rw [List.length_set, Array.set!_eq_setIfInBounds, Array.toList_setIfInBounds, List.take_set, ht]
      simp [uv, List.map_set]
theorem Ra.below {w w' : World} {q base S : Nat} {v : Value} {W : List Int} (h : Ra w q base v W S) (hb : Below w.heap.size w w') : Ra w' q base v W S := by
  have hql : q < w.heap.size := Nat.lt_of_lt_of_le h.qb h.bs
  refine ⟨by rw [hb.block q hql]; exact h.box, ⟨h.own.1, ?_⟩, h.fit, h.lim, h.ok, h.qb, Nat.le_trans h.bs hb.size⟩
  obtain ⟨h1, h2⟩ := h.own
  rcases h2 with h2 | ⟨g, cap, cur, rfl, hg, hh, r⟩
  · exact .inl h2
  · exact .inr ⟨g, cap, cur, rfl, hg, by rw [hb.block g (Array.getElem?_eq_some_iff.1 hh).1]; exact hh, r⟩
/-- It stands whatever one block ahead of it is turned to. -/
theorem Ra.ot {w w' : World} {q base S g : Nat} {v : Value} {W : List Int} (h : Ra w q base v W S) (ho : Ot g w w') (hg : g < q) : Ra w' q base v W S := by
  have hql : q < w.heap.size := Nat.lt_of_lt_of_le h.qb h.bs
  refine ⟨by rw [ho.block q hql (by omega)]; exact h.box, ⟨h.own.1, ?_⟩, h.fit, h.lim, h.ok, h.qb, Nat.le_trans h.bs ho.size⟩
  obtain ⟨h1, h2⟩ := h.own
  have hqb := h.qb
  rcases h2 with h2 | ⟨k, cap, cur, rfl, hk, hh, r⟩
  · exact .inl h2
  · exact .inr ⟨k, cap, cur, rfl, hk, by rw [ho.block k (Array.getElem?_eq_some_iff.1 hh).1 (by omega)]; exact hh, r⟩

theorem Oq.shape {w : World} {base : Nat} {v : Value} {W : List Int} (h : Oq w base v W) : ∃ a cap, v = .slice a W.length cap := by
  obtain ⟨-, h2⟩ := h
  rcases h2 with ⟨rfl, h3⟩ | ⟨g, cap, cur, rfl, -⟩
  · exact ⟨none, 0, by rw [h3]⟩
  · exact ⟨_, _, rfl⟩
theorem Oq.kept {w w' : World} {base q : Nat} {v : Value} {W : List Int} (h : Oq w base v W) (hg : w.grownBy w' v.ownBlock) (hq : q < base) (hql : q < w.heap.size) : w'.heap[q]? = w.heap[q]? := by
  obtain ⟨-, h2⟩ := h
  refine hg.block q hql ?_
  rcases h2 with ⟨rfl, -⟩ | ⟨g, cap, cur, rfl, hb, -⟩
  · simp [Value.ownBlock]
  · simp [Value.ownBlock]; omega
theorem Oq.setBelow {w : World} {base q j : Nat} {v u : Value} {W : List Int} (h : Oq w base v W) (hq : q < base) : Oq (w.setCell ⟨q, j, none⟩ u) base v W := ownsRow_setCell_below h hq u

/-- What New answers. -/
def NewR (m : Nat) (w : World) (e : Ending) (w' : World) : Prop :=
  e = .returned (.pointer (some ⟨w.heap.size, 0, none⟩)) ∧ Ra w' w.heap.size (w.heap.size + 1) (.slice none 0 0) [] m ∧ Below w.heap.size w w'

set_option maxRecDepth 100000 in
theorem rnew_any (n : Int) (w : World) (h1 : -9223372036854775808 ≤ n) (h2 : n ≤ 9223372036854775807) :
    Calls Try.prog 7 #[.int .i64 n] w fun e w' => NewR (cutA n) w e w' := by
  obtain ⟨M, hM⟩ : ∃ M, (if n < 0 then 0 else n) = M := ⟨_, rfl⟩
  obtain ⟨m, hm⟩ : ∃ m, m = cutA n := ⟨_, rfl⟩
  have hc : (if 32768 < M then 32768 else M) = (m : Int) := by rw [← hM, hm]; unfold cutA; split <;> split <;> omega
  have hm2 : m ≤ 32768 := by rw [hm]; unfold cutA; omega
  rw [← hm]
  clear hm
  go_enter Try.func7, Try.ntmps7
  go_wp2_with fail
  go_ret
  exact ⟨rfl, ⟨heap_alloc_new _ _, ⟨rfl, .inl ⟨rfl, rfl⟩⟩, Nat.zero_le _, hm2, Q8.nil, Nat.lt_succ_self _, by simp⟩, (Below.refl _ _).alloc (Nat.le_refl _) _⟩

theorem rword_any (w : World) (q base S : Nat) (v : Value) (W : List Int) (at' : Int) (h : Ra w q base v W S) :
    Calls Try.prog 16 #[.pointer (some ⟨q, 0, none⟩), .int .i64 at'] w fun e w' => e = .returned (.int .u64 (wordS W at')) ∧ w = w' := by
  by_cases hi : 0 ≤ at' ∧ at' < (W.length : Int)
  · have hw : wordS W at' = W.getD at'.toNat 0 := if_pos hi
    obtain ⟨i, rfl⟩ : ∃ i : Nat, at' = (i : Int) := ⟨at'.toNat, by omega⟩
    have hi2 : i < W.length := by omega
    obtain ⟨g, cap, rfl, -, c1, -, -⟩ := h.at i hi2
    obtain ⟨-, c0, -⟩ := h.facts
    obtain ⟨z, hz⟩ : ∃ z, z = W.getD i 0 := ⟨_, rfl⟩
    rw [← hz] at c1
    rw [hw, show (i : Int).toNat = i by omega, ← hz]
    have hlt : (i : Int) < (W.length : Int) := by omega
    clear h hw hi hz
    go_enter Try.func16, Try.ntmps16
    go_wp2_with fail
    go_ret
    exact ⟨rfl, rfl⟩
  · have hw : wordS W at' = 0 := if_neg hi
    obtain ⟨-, c0, -⟩ := h.facts
    obtain ⟨a, cap, rfl⟩ := h.shape
    rw [hw]
    clear h hw
    by_cases hn : at' < 0
    · clear hi
      go_enter Try.func16, Try.ntmps16
      go_wp2_with fail
      go_ret
      exact ⟨rfl, rfl⟩
    · have hl : (W.length : Int) ≤ at' := by omega
      clear hi
      go_enter Try.func16, Try.ntmps16
      go_wp2_with fail
      go_ret
      exact ⟨rfl, rfl⟩

/-- What is left of it behind a call. -/
def RefA (w : World) (q base S : Nat) (v : Value) (W : List Int) (w' : World) : Prop := ∃ v', Ra w' q base v' W S ∧ Below q w w' ∧ ∀ k, k < w.heap.size → k ≠ q → v.ownBlock ≠ some k → w'.heap[k]? = w.heap[k]?
theorem Ra.lt {w : World} {q base S k : Nat} {v : Value} {W : List Int} (h : Ra w q base v W S) (hv : v.ownBlock = some k) : k < w.heap.size := (World.ownsRow.lt h.own k hv).2

theorem rset_any (w : World) (q base S : Nat) (v : Value) (W : List Int) (at' x : Int) (h : Ra w q base v W S) (hx : 0 ≤ x ∧ x < 18446744073709551616) :
    Calls Try.prog 12 #[.pointer (some ⟨q, 0, none⟩), .int .i64 at', .int .u64 x] w fun e w' => e = .returned (.tuple #[]) ∧ RefA w q base S v (setS W at' x) w' := by
  by_cases hi : 0 ≤ at' ∧ at' < (W.length : Int)
  · have hw : setS W at' x = W.set at'.toNat x := if_pos hi
    obtain ⟨i, rfl⟩ : ∃ i : Nat, at' = (i : Int) := ⟨at'.toNat, by omega⟩
    have hi2 : i < W.length := by omega
    have hqb := h.qb
    obtain ⟨g, cap, rfl, hg, c1, c2, hs⟩ := h.at i hi2
    obtain ⟨-, c0, -⟩ := h.facts
    rw [hw, show (i : Int).toNat = i by omega]
    have HS : Hid _ := hs x hx
    have hlt : (i : Int) < (W.length : Int) := by omega
    clear h hw hi hs
    go_enter Try.func12, Try.ntmps12
    go_wp2_with fail
    go_end0
    exact ⟨rfl, _, HS.out, (Below.refl _ _).setCell (show q ≤ g by omega) _, fun k hk hq hv => heap_set_ne _ _ _ _ _ (fun e => hv (by rw [e]; rfl))⟩
  · have hw : setS W at' x = W := if_neg hi
    obtain ⟨-, c0, -⟩ := h.facts
    obtain ⟨a, cap, rfl⟩ := h.shape
    have HA : Hid (Ra w q base (.slice a W.length cap) W S) := h
    rw [hw]
    clear h hw
    by_cases hn : at' < 0
    · clear hi
      go_enter Try.func12, Try.ntmps12
      go_wp2_with fail
      go_end0
      exact ⟨rfl, _, HA.out, Below.refl _ _, fun _ _ _ _ => rfl⟩
    · have hl : (W.length : Int) ≤ at' := by omega
      clear hi
      go_enter Try.func12, Try.ntmps12
      go_wp2_with fail
      go_end0
      exact ⟨rfl, _, HA.out, Below.refl _ _, fun _ _ _ _ => rfl⟩

set_option maxRecDepth 100000 in
set_option maxHeartbeats 1000000 in
theorem ralloc_yes (w : World) (q base S : Nat) (v : Value) (W : List Int) (m : Nat) (h : Ra w q base v W S) (hm : m ≤ S - W.length) :
    Calls Try.prog 10 #[.pointer (some ⟨q, 0, none⟩), .int .i64 (m : Int)] w fun e w' => e = .returned (.tuple #[.int .i64 (W.length : Int), .bool true]) ∧ RefA w q base S v (W ++ zq m) w' := by
  obtain ⟨c0, c1, c2⟩ := h.facts
  obtain ⟨a, cap, rfl⟩ := h.shape
  have hf := h.fit
  have hl := h.lim
  have hqb := h.qb
  have hbs := h.bs
  have HA : Hid (Ra w q base (.slice a W.length cap) W S) := h
  have hmi : ¬ ((S : Int) - (W.length : Int) < (m : Int)) := by omega
  have hm0 : ¬ ((m : Int) < 0) := by omega
  have hwr : IntKind.i64.wrap ((S : Int) - (W.length : Int)) = (S : Int) - (W.length : Int) := by rw [IntKind.wrap_i64]; omega
  have hO : Oq w base (.slice a W.length cap) W := h.own
  clear h hm
  go_enter Try.func10, Try.ntmps10
  go_wp2_with fail
  go_quiet (fail)
  have HK : Hid (∀ n v' w1, Oq w1 base v' (W ++ zq m) → (w.drewN n).grownBy w1 (Value.slice a W.length cap).ownBlock → (Below q w w1 ∧ ∀ k, k < w.heap.size → (Value.slice a W.length cap).ownBlock ≠ some k → w1.heap[k]? = w.heap[k]?) ∧ base ≤ w1.heap.size ∧ w1.heap[q]? = some (.cells #[.int .i64 (S : Int), .slice a W.length cap] 37 (0, 0)) ∧ w1.frozen? ⟨q, 1, none⟩ = false ∧ w1.cell? ⟨q, 1, none⟩ = some (.slice a W.length cap)) := fun n v' w1 h1 h2 => by
    have hO' : Oq (w.drewN n) base (.slice a W.length cap) W := hO
    have := hO'.kept h2 hqb (Nat.lt_of_lt_of_le hqb hbs)
    have hb : Below q w w1 := ⟨h2.os, h2.tape, h2.output, h2.size, fun k hk => hO'.kept h2 (by omega) (show k < w.heap.size by omega)⟩
    refine ⟨⟨hb, fun k hk hv => h2.block k hk hv.symm⟩, Nat.le_trans hbs hb.size, ?_⟩
    have this : w1.heap[q]? = w.heap[q]? := this
    rw [HA.out.box] at this
    exact ⟨this, by simp [World.frozen?, this], by simp [World.cell?, this]⟩
  go_wp2_with (first | (at_builtin; refine wpList_qappz rfl _ _ rfl _ m rfl rfl base W hO (by omega) (by omega) (by simpa using hbs) ?_; intro v' w1 ho1 hg1; obtain ⟨⟨hbq, hbk⟩, hbs1, hx1, hx2, hx3⟩ := HK.out _ v' w1 ho1 hg1; obtain ⟨a', c', rfl⟩ := ho1.shape) | fail)
  go_ret2
  refine ⟨rfl, _, ⟨?_, ho1.setBelow hqb, by rw [List.length_append, zq_len]; omega, hl, HA.out.ok.append (Q8.zq m), hqb, by simp [World.setCell]; exact hbs1⟩, ?_, fun k hk hq hv => (heap_set_ne _ _ _ _ _ hq).trans (hbk k hk hv)⟩
  · simp [World.setCell, Array.getElem?_modify, hx1]
  · exact hbq.setCell (Nat.le_refl _) _

set_option maxRecDepth 100000 in
set_option maxHeartbeats 2000000 in
theorem ralloc_no (w : World) (q base S : Nat) (v : Value) (W : List Int) (n : Int) (h : Ra w q base v W S) (hi : n < 0 ∨ (S : Int) - (W.length : Int) < n) :
    Calls Try.prog 10 #[.pointer (some ⟨q, 0, none⟩), .int .i64 n] w fun e w' => e = .returned (.tuple #[.int .i64 0, .bool false]) ∧ RefA w q base S v W w' := by
  obtain ⟨c0, c1, c2⟩ := h.facts
  obtain ⟨a, cap, rfl⟩ := h.shape
  have hf := h.fit
  have hl := h.lim
  have hwr : IntKind.i64.wrap ((S : Int) - (W.length : Int)) = (S : Int) - (W.length : Int) := by rw [IntKind.wrap_i64]; omega
  have HA : Hid (∀ n, Ra (w.drewN n) q base (.slice a W.length cap) W S) := fun n => h.below (by exact ⟨rfl, rfl, rfl, Nat.le_refl _, fun _ _ => rfl⟩)
  have HB : Hid (∀ n, Below q w (w.drewN n)) := fun n => ⟨rfl, rfl, rfl, Nat.le_refl _, fun _ _ => rfl⟩
  clear h
  by_cases hn : n < 0
  · clear hi
    go_enter Try.func10, Try.ntmps10
    go_wp2_with fail
    go_region
    all_goals go_wp2_with fail
    all_goals go_ret2
    all_goals exact ⟨rfl, _, HA.out _, HB.out _, fun _ _ _ _ => rfl⟩
  · have hn2 : (S : Int) - (W.length : Int) < n := by omega
    clear hi
    go_enter Try.func10, Try.ntmps10
    go_wp2_with fail
    go_quiet (fail)
    go_wp2_with fail
    go_ret2
    exact ⟨rfl, _, HA.out _, HB.out _, fun _ _ _ _ => rfl⟩
end Go.Proofs.Ytgdlilgkbjiiaaa
