/-
  append(b, make([]byte, m)...), b a row of the call's own: m bytes of 0 behind it.
-/
import Derived.Test.YtifofcodmgglkaaIffB
namespace Go.Proofs.Ytifofcodmgglkaa
open Go.RowKit Go.Maps
set_option linter.unusedVariables false
set_option linter.unusedSimpArgs false

def z8 (m : Nat) : List UInt8 := List.replicate m 0
theorem z8_len (m : Nat) : (z8 m).length = m := by simp [z8]
theorem bz_len (m : Nat) : (bv (z8 m)).length = m := by simp [z8, bv]

set_option maxRecDepth 100000 in
theorem w64n (m : Nat) (h : m ≤ 1000000) : IntKind.i64.wrap (m : Int) = (m : Int) := by
  rw [IntKind.wrap_i64]; omega

set_option maxRecDepth 100000 in
theorem run_asInt64 (x : Int) (w : World) : (asInt (.int .i64 x)).run Try.prog w = .ok x w := by
  simp [asInt, asIntOf]

set_option maxRecDepth 100000 in
theorem zeroCells_u8 (m : Nat) : (Builtin.zeroCells (Value.int .u8 0).cells m).toList = bv (z8 m) := by
  simp only [Builtin.zeroCells, Value.cells, z8, bv, List.map_replicate]
  apply List.ext_getElem
  · simp
  · intro j h1 h2
    simp [Nat.mod_one]

set_option maxRecDepth 100000 in
theorem run_appz_room (w : World) (ty : TypeId) (g n cap m : Nat) (cur : Array Value) (hg : w.heap[g]? = some (.cells cur 5 (0, 0))) (hm : m ≤ 1000000) (h0 : 0 < m) (hroom : n + m ≤ cap) (hfit : n + m ≤ cur.size) :
    (Builtin.append_ #[22, 3] ty #[.slice (some ⟨g, 0, none⟩) n cap, .int .i64 (m : Int)]).run Try.prog w =
      .ok (.slice (some ⟨g, 0, none⟩) (n + m) cap) (w.setRow g (cur.toList.take n ++ bv (z8 m) ++ cur.toList.drop (n + m)).toArray) := by
  obtain ⟨i, hi, hz0, hz1, hz2⟩ := info_parts Try.infoU8
  have h1 := w64n m hm
  have h2 : ¬ ((m : Int) < 0) := by omega
  have h3 : ¬ ((281474976710656 : Int) < (m : Int)) := by omega
  have h4 : ¬ (m = 0) := by omega
  have hst := run_storeCells_at Try.prog g n 5 (bv (z8 m)) 0 cur w hg (by simpa [bz_len] using hfit) (bv_one _)
  simp only [Nat.add_zero] at hst
  have hzc := zeroCells_u8 m
  simp [Builtin.append_, run_underlying Try.underlying22, run_underlying Try.underlying3, sizeOf, typeInfo, zeroValue, run_asInt64, hi, hz0, hz1, hz2, h1, h3, h4, hroom, Addr.add_lit, hzc, hst, bz_len]
  intro h
  omega

set_option maxRecDepth 100000 in
theorem run_appz_none (w : World) (ty : TypeId) (a : Option Addr) (n cap : Nat) (ha : a = none ∨ ∃ g, a = some ⟨g, 0, none⟩) (hn : n ≤ cap) :
    (Builtin.append_ #[22, 3] ty #[.slice a n cap, .int .i64 0]).run Try.prog w = .ok (.slice a n cap) w := by
  obtain ⟨i, hi, hz0, hz1, hz2⟩ := info_parts Try.infoU8
  have h1 : IntKind.i64.wrap 0 = 0 := by decide
  rcases ha with rfl | ⟨g, rfl⟩
  · simp [Builtin.append_, run_underlying Try.underlying22, run_underlying Try.underlying3, sizeOf, typeInfo, zeroValue, run_asInt64, hi, hz0, hz1, hz2, h1, hn]
  · simp [Builtin.append_, run_underlying Try.underlying22, run_underlying Try.underlying3, sizeOf, typeInfo, zeroValue, run_asInt64, hi, hz0, hz1, hz2, h1, hn, storeCells]

set_option maxRecDepth 100000 in
theorem run_appz_grow (w : World) (g n cap m : Nat) (olds : List Value) (hlo : olds.length = n) (holds : ∀ j v, olds[j]? = some v → w.cell? ((⟨g, 0, none⟩ : Addr).add j) = some v)
    (hm : m ≤ 1000000) (h0 : 0 < m) (hn : n ≤ 1000000) (hroom : cap < n + m) :
    ∃ C, n + m ≤ C ∧ C ≤ maxLen ∧ ∀ ty, (Builtin.append_ #[22, 3] ty #[.slice (some ⟨g, 0, none⟩) n cap, .int .i64 (m : Int)]).run Try.prog w =
      .ok (.slice (some ⟨w.heap.size, 0, none⟩) (n + m) C) (w.drew.alloc (.cells (olds ++ bv (z8 m) ++ bv (z8 (C - (n + m)))).toArray 5)) := by
  obtain ⟨i, hi, hz0, hz1, hz2⟩ := info_parts Try.infoU8
  have h1 := w64n m hm
  have h2 : ¬ ((m : Int) < 0) := by omega
  have h3 : ¬ ((281474976710656 : Int) < (m : Int)) := by omega
  have h4 : ¬ (m = 0) := by omega
  have h5 : ¬ (n + m ≤ cap) := by omega
  have h6 : ¬ (9223372036854775807 < ((n : Int) + (m : Int))) := by omega
  have h7 : ¬ (281474976710656 < Builtin.nextslicecap (n + m) cap) := by
    have := growslice_fits (need := n + m) (old := cap) (bytes := 1) (by omega) (by omega)
    omega
  have hfo := run_firstCells_some (P := Try.prog) w.drew 1 n ⟨g, 0, none⟩ n cap olds (by omega) (by simpa using holds)
  refine ⟨grownCap w (n + m) cap 5, grownCap_ge _ _ _ _, grownCap_le_maxLen _ _ _ _ (by simp only [maxLen]; omega), fun ty => ?_⟩
  have hz1' := zeroCells_u8 m
  have hz2' := zeroCells_u8 (grownCap w (n + m) cap 5 - (n + m))
  simp [Builtin.append_, run_underlying Try.underlying22, run_underlying Try.underlying3, sizeOf, typeInfo, zeroValue, run_asInt64, hi, hz0, hz1, hz2, h1, h3, h4, h5, h6, h7, Question.forced, hfo, newRow, grownCap]
  rw [if_neg h2]
  simp only [Result.ok.injEq, true_and]
  congr 2
  apply Array.ext'
  simp only [Array.toList_append, List.toList_toArray]
  rw [hz1']
  have hz3 := hz2'
  simp only [grownCap] at hz3
  rw [hz3]

set_option maxRecDepth 100000 in
theorem run_appz_nil (w : World) (m : Nat) (hm : m ≤ 1000000) (h0 : 0 < m) :
    ∃ C, m ≤ C ∧ C ≤ maxLen ∧ ∀ ty, (Builtin.append_ #[22, 3] ty #[.slice none 0 0, .int .i64 (m : Int)]).run Try.prog w =
      .ok (.slice (some ⟨w.heap.size, 0, none⟩) m C) (w.drew.alloc (.cells (bv (z8 m) ++ bv (z8 (C - m))).toArray 5)) := by
  obtain ⟨i, hi, hz0, hz1, hz2⟩ := info_parts Try.infoU8
  have h1 := w64n m hm
  have h2 : ¬ ((m : Int) < 0) := by omega
  have h3 : ¬ ((281474976710656 : Int) < (m : Int)) := by omega
  have h4 : ¬ (m = 0) := by omega
  have h6 : ¬ (9223372036854775807 < (m : Int)) := by omega
  have h7 : ¬ (281474976710656 < Builtin.nextslicecap m 0) := by rw [nextslicecap_zero h0]; omega
  refine ⟨grownCap w m 0 5, grownCap_ge _ _ _ _, grownCap_le_maxLen _ _ _ _ (by simp only [maxLen]; omega), fun ty => ?_⟩
  have hz1' := zeroCells_u8 m
  have hz2' := zeroCells_u8 (grownCap w m 0 5 - m)
  simp [Builtin.append_, run_underlying Try.underlying22, run_underlying Try.underlying3, sizeOf, typeInfo, zeroValue, run_asInt64, hi, hz0, hz1, hz2, h1, h3, h4, h6, h7, Question.forced, run_firstCells_none, newRow, grownCap]
  rw [if_neg h2]
  simp only [Result.ok.injEq, true_and]
  congr 2
  apply Array.ext'
  simp only [Array.toList_append, List.toList_toArray]
  rw [hz1']
  have hz3 := hz2'
  simp only [grownCap] at hz3
  rw [hz3]

set_option maxRecDepth 100000 in
theorem ob_alloc (w : World) (a rest : List UInt8) (base C : Nat) (hb : base ≤ w.heap.size) (hC : a.length + rest.length = C) (hm : C ≤ maxLen) :
    OB (w.drew.alloc (.cells (bv a ++ bv rest).toArray 5)) base (.slice (some ⟨w.heap.size, 0, none⟩) a.length C) a := by
  refine ⟨by simp [bv_len], .inr ⟨w.heap.size, C, _, rfl, hb, heap_alloc_new w.drew _, by omega, hm, by simp [bv_len]; omega, ?_⟩⟩
  simp [bv_len]

theorem grown_drew (w : World) (o : Obj) (row : Option Nat) : w.grownBy (w.drew.alloc o) row := ⟨rfl, rfl, rfl, by simp, fun k hk _ => (World.grownBy_alloc w.drew o none).block k hk (by simp)⟩

set_option maxRecDepth 100000 in
theorem appz_run (w : World) (base : Nat) (v : Value) (a : List UInt8) (m : Nat) (h : OB w base v a) (ha : a.length ≤ 1000000) (hm : m ≤ 1000000) (hb : base ≤ w.heap.size) :
    ∃ v' w', (∀ ty, (Builtin.append_ #[22, 3] ty #[v, .int .i64 (m : Int)]).run Try.prog w = .ok v' w') ∧ OB w' base v' (a ++ z8 m) ∧ w.grownBy w' v.ownBlock := by
  have hO := h
  obtain ⟨h1, h2⟩ := h
  by_cases h0 : m = 0
  · subst h0
    refine ⟨v, w, fun ty => ?_, by simpa [z8] using hO, ⟨rfl, rfl, rfl, Nat.le_refl _, fun _ _ _ => rfl⟩⟩
    rcases h2 with ⟨rfl, h3⟩ | ⟨g, cap, cur, rfl, hbg, hh, hn, hmx, hs, ht⟩
    · exact run_appz_none w ty none 0 0 (.inl rfl) (Nat.le_refl _)
    · exact run_appz_none w ty _ _ cap (.inr ⟨g, rfl⟩) hn
  · rcases h2 with ⟨rfl, h3⟩ | ⟨g, cap, cur, rfl, hbg, hh, hn, hmx, hs, ht⟩
    · obtain rfl : a = [] := List.eq_nil_of_length_eq_zero h3
      obtain ⟨C, hC1, hC2, hr⟩ := run_appz_nil w m hm (by omega)
      refine ⟨_, _, hr, ?_, grown_drew _ _ _⟩
      have := ob_alloc w (z8 m) (z8 (C - m)) base C hb (by simp [z8_len]; omega) hC2
      simpa [z8_len] using this
    · by_cases hroom : a.length + m ≤ cap
      · have hr := fun ty => run_appz_room w ty g a.length cap m cur hh hm (by omega) hroom (by omega)
        refine ⟨_, _, hr, ?_, ⟨rfl, rfl, rfl, by simp, fun k _ hk => setRow_other w g k _ (fun e => hk (by simp [Value.ownBlock, e]))⟩⟩
        have hO : OB (w.setRow g (cur.toList.take a.length ++ bv (z8 m) ++ cur.toList.drop (a.length + m)).toArray) base (.slice (some ⟨g, 0, none⟩) (a ++ z8 m).length cap) (a ++ z8 m) := by
          refine ⟨by simp [bv_len], .inr ⟨g, cap, _, rfl, hbg, setRow_heap w g cur _ _ _ hh, by simp [z8_len]; omega, hmx, by simp [bz_len]; omega, ?_⟩⟩
          simp only [Nat.mul_one] at ht hs ⊢
          rw [ht, ← bv_app, List.toList_toArray]
          rw [show (a ++ z8 m).length = (bv (a ++ z8 m)).length by simp [bv_len]]
          exact List.take_left
        simpa [z8_len] using hO
      · have holds : ∀ j u, (bv a)[j]? = some u → w.cell? ((⟨g, 0, none⟩ : Addr).add j) = some u := World.ownsRow.cells (v := .slice (some ⟨g, 0, none⟩) a.length cap) ⟨h1, .inr ⟨g, cap, cur, rfl, hbg, hh, hn, hmx, hs, ht⟩⟩ rfl
        obtain ⟨C, hC1, hC2, hr⟩ := run_appz_grow w g a.length cap m (bv a) (by simp [bv_len]) holds hm (by omega) ha (by omega)
        refine ⟨_, _, hr, ?_, grown_drew _ _ _⟩
        have := ob_alloc w (a ++ z8 m) (z8 (C - (a.length + m))) base C hb (by simp [z8_len]; omega) hC2
        simpa [z8_len, bv_app] using this

set_option maxRecDepth 100000 in
theorem wpList_appz {w : World} {ops : Array Oper} {rest : List Oper} {o : Oper} {a : Act} {Q : Exit → Act → World → Prop} (hgd : o.guard = none) (s x : Operand)
    (ho : o.op = .call { callee := .builtin .append, args := #[s, x], argTypes := #[22, 3] }) (v : Value) (m : Nat) (hs : a.eval s = v) (hx : a.eval x = .int .i64 (m : Int)) (base : Nat) (l : List UInt8)
    (hO : OB w base v l) (ha : l.length ≤ 1000000) (hm : m ≤ 1000000) (hb : base ≤ w.heap.size) (h : ∀ v' w', OB w' base v' (l ++ z8 m) → w.grownBy w' v.ownBlock → wpList Try.prog ops Q rest (a.put o.dst v') w') : wpList Try.prog ops Q (o :: rest) a w := by
  obtain ⟨v', w', hr, h1, h2⟩ := appz_run w base v l m hO ha hm hb
  refine wpList_plain hgd fun K hK => ?_
  have hrun := hr o.type
  unfold Oper.wp
  simp [execOp, ho, resolve, invoke, builtin, hs, hx, hrun, Result.andThen]
  exact hK _ _ (h v' w' h1 h2)
end Go.Proofs.Ytifofcodmgglkaa
