
/-
  append(x, make([]uint64, m)...), x nil or a row of the call's own: m words of 0 behind it.
-/
import Derived.Test.YtgdlilgkbjiiaaaArB
import Derived.Laws.AppendOwnNone
namespace Go.Proofs.Ytgdlilgkbjiiaaa
open Go.RowKit
set_option linter.unusedVariables false
set_option linter.unusedSimpArgs false

theorem uz_len (m : Nat) : (uv (zq m)).length = m := by simp [zq, uv]

set_option maxRecDepth 100000 in
theorem qw64n (m : Nat) (h : m ≤ 1000000) : IntKind.i64.wrap (m : Int) = (m : Int) := by
  rw [IntKind.wrap_i64]; omega

set_option maxRecDepth 100000 in
theorem qrun_asInt64 (x : Int) (w : World) : (asInt (.int .i64 x)).run Try.prog w = .ok x w := by
  simp [asInt, asIntOf]

set_option maxRecDepth 100000 in
theorem zeroCells_u64 (m : Nat) : (Builtin.zeroCells (Value.int .u64 0).cells m).toList = uv (zq m) := by
  simp only [Builtin.zeroCells, Value.cells, zq, uv, List.map_replicate]
  apply List.ext_getElem
  · simp
  · intro j h1 h2
    simp [Nat.mod_one]

set_option maxRecDepth 100000 in
theorem runq_room (w : World) (ty : TypeId) (g n cap m : Nat) (cur : Array Value) (hg : w.heap[g]? = some (.cells cur 27 (0, 0))) (hm : m ≤ 1000000) (h0 : 0 < m) (hroom : n + m ≤ cap) (hfit : n + m ≤ cur.size) :
    (Builtin.append_ #[35, 3] ty #[.slice (some ⟨g, 0, none⟩) n cap, .int .i64 (m : Int)]).run Try.prog w =
      .ok (.slice (some ⟨g, 0, none⟩) (n + m) cap) (w.setRow g (cur.toList.take n ++ uv (zq m) ++ cur.toList.drop (n + m)).toArray) := by
  obtain ⟨i, hi, hz0, hz1, hz2⟩ := info_parts Try.infoU64
  have h1 := qw64n m hm
  have h2 : ¬ ((m : Int) < 0) := by omega
  have h3 : ¬ ((281474976710656 : Int) < (m : Int) * 8) := by omega
  have h4 : ¬ (m = 0) := by omega
  have hst := run_storeCells_at Try.prog g n 27 (uv (zq m)) 0 cur w hg (by simpa [uz_len] using hfit) (ints_oneCell _ _)
  simp only [Nat.add_zero] at hst
  have hzc := zeroCells_u64 m
  simp [Builtin.append_, run_underlying Try.underlying35, run_underlying Try.underlying3, sizeOf, typeInfo, zeroValue, qrun_asInt64, hi, hz0, hz1, hz2, h1, h3, h4, hroom, Addr.add_lit, hzc, hst, uz_len]
  intro h
  omega

set_option maxRecDepth 100000 in
theorem runq_none (w : World) (ty : TypeId) (a : Option Addr) (n cap : Nat) (ha : a = none ∨ ∃ g, a = some ⟨g, 0, none⟩) (hn : n ≤ cap) :
    (Builtin.append_ #[35, 3] ty #[.slice a n cap, .int .i64 0]).run Try.prog w = .ok (.slice a n cap) w := by
  obtain ⟨i, hi, hz0, hz1, hz2⟩ := info_parts Try.infoU64
  have h1 : IntKind.i64.wrap 0 = 0 := by decide
  rcases ha with rfl | ⟨g, rfl⟩
  · simp [Builtin.append_, run_underlying Try.underlying35, run_underlying Try.underlying3, sizeOf, typeInfo, zeroValue, qrun_asInt64, hi, hz0, hz1, hz2, h1, hn]
  · simp [Builtin.append_, run_underlying Try.underlying35, run_underlying Try.underlying3, sizeOf, typeInfo, zeroValue, qrun_asInt64, hi, hz0, hz1, hz2, h1, hn, storeCells]

set_option maxRecDepth 100000 in
theorem runq_grow (w : World) (g n cap m : Nat) (olds : List Value) (hlo : olds.length = n) (holds : ∀ j v, olds[j]? = some v → w.cell? ((⟨g, 0, none⟩ : Addr).add j) = some v)
    (hm : m ≤ 1000000) (h0 : 0 < m) (hn : n ≤ 1000000) (hroom : cap < n + m) :
    ∃ C, n + m ≤ C ∧ C ≤ maxLen ∧ ∀ ty, (Builtin.append_ #[35, 3] ty #[.slice (some ⟨g, 0, none⟩) n cap, .int .i64 (m : Int)]).run Try.prog w =
      .ok (.slice (some ⟨w.heap.size, 0, none⟩) (n + m) C) (w.drew.alloc (.cells (olds ++ uv (zq m) ++ uv (zq (C - (n + m)))).toArray 27)) := by
  obtain ⟨i, hi, hz0, hz1, hz2⟩ := info_parts Try.infoU64
  have h1 := qw64n m hm
  have h2 : ¬ ((m : Int) < 0) := by omega
  have h3 : ¬ ((281474976710656 : Int) < (m : Int) * 8) := by omega
  have h4 : ¬ (m = 0) := by omega
  have h5 : ¬ (n + m ≤ cap) := by omega
  have h6 : ¬ (9223372036854775807 < ((n : Int) + (m : Int))) := by omega
  have h7 : ¬ (281474976710656 < Builtin.nextslicecap (n + m) cap * 8) := by
    have := growslice_fits (need := n + m) (old := cap) (bytes := 8) (by omega) (by omega)
    omega
  have hfo := run_firstCells_some (P := Try.prog) w.drew 1 n ⟨g, 0, none⟩ n cap olds (by omega) (by simpa using holds)
  refine ⟨grownCap w (n + m) cap 27, grownCap_ge _ _ _ _, grownCap_le_maxLen _ _ _ _ (by simp only [maxLen]; omega), fun ty => ?_⟩
  have hz1' := zeroCells_u64 m
  have hz2' := zeroCells_u64 (grownCap w (n + m) cap 27 - (n + m))
  simp [Builtin.append_, run_underlying Try.underlying35, run_underlying Try.underlying3, sizeOf, typeInfo, zeroValue, qrun_asInt64, hi, hz0, hz1, hz2, h1, h3, h4, h5, h6, h7, Question.forced, hfo, newRow, grownCap]
  rw [if_neg h2]
  simp only [Result.ok.injEq, true_and]
  congr 2
  apply Array.ext'
  simp only [Array.toList_append, List.toList_toArray]
  rw [hz1']
  have hz3 := hz2'
  simp only [grownCap] at hz3
  rw [hz3]

set_option maxRecDepth 100000 in
theorem runq_nil (w : World) (m : Nat) (hm : m ≤ 1000000) (h0 : 0 < m) :
    ∃ C, m ≤ C ∧ C ≤ maxLen ∧ ∀ ty, (Builtin.append_ #[35, 3] ty #[.slice none 0 0, .int .i64 (m : Int)]).run Try.prog w =
      .ok (.slice (some ⟨w.heap.size, 0, none⟩) m C) (w.drew.alloc (.cells (uv (zq m) ++ uv (zq (C - m))).toArray 27)) := by
  obtain ⟨i, hi, hz0, hz1, hz2⟩ := info_parts Try.infoU64
  have h1 := qw64n m hm
  have h2 : ¬ ((m : Int) < 0) := by omega
  have h3 : ¬ ((281474976710656 : Int) < (m : Int) * 8) := by omega
  have h4 : ¬ (m = 0) := by omega
  have h6 : ¬ (9223372036854775807 < (m : Int)) := by omega
  have h7 : ¬ (281474976710656 < Builtin.nextslicecap m 0 * 8) := by rw [nextslicecap_zero h0]; omega
  refine ⟨grownCap w m 0 27, grownCap_ge _ _ _ _, grownCap_le_maxLen _ _ _ _ (by simp only [maxLen]; omega), fun ty => ?_⟩
  have hz1' := zeroCells_u64 m
  have hz2' := zeroCells_u64 (grownCap w m 0 27 - m)
  simp [Builtin.append_, run_underlying Try.underlying35, run_underlying Try.underlying3, sizeOf, typeInfo, zeroValue, qrun_asInt64, hi, hz0, hz1, hz2, h1, h3, h4, h6, h7, Question.forced, run_firstCells_none, newRow, grownCap]
  rw [if_neg h2]
  simp only [Result.ok.injEq, true_and]
  congr 2
  apply Array.ext'
  simp only [Array.toList_append, List.toList_toArray]
  rw [hz1']
  have hz3 := hz2'
  simp only [grownCap] at hz3
  rw [hz3]

set_option maxRecDepth 100000 in
theorem oq_alloc (w : World) (a rest : List Int) (base C : Nat) (hb : base ≤ w.heap.size) (hC : a.length + rest.length = C) (hm : C ≤ maxLen) :
    Oq (w.drew.alloc (.cells (uv a ++ uv rest).toArray 27)) base (.slice (some ⟨w.heap.size, 0, none⟩) a.length C) a := by
  refine ⟨by simp [uv_len], .inr ⟨w.heap.size, C, _, rfl, hb, heap_alloc_new w.drew _, by omega, hm, by simp [uv_len]; omega, ?_⟩⟩
  simp [uv_len]

theorem qgrown_drew (w : World) (o : Obj) (row : Option Nat) : w.grownBy (w.drew.alloc o) row := ⟨rfl, rfl, rfl, by simp, fun k hk _ => (World.grownBy_alloc w.drew o none).block k hk (by simp)⟩

set_option maxRecDepth 100000 in
theorem qappz_run (w : World) (base : Nat) (v : Value) (a : List Int) (m : Nat) (h : Oq w base v a) (ha : a.length ≤ 1000000) (hm : m ≤ 1000000) (hb : base ≤ w.heap.size) :
    ∃ v' w', (∀ ty, (Builtin.append_ #[35, 3] ty #[v, .int .i64 (m : Int)]).run Try.prog w = .ok v' w') ∧ Oq w' base v' (a ++ zq m) ∧ w.grownBy w' v.ownBlock := by
  have hO := h
  obtain ⟨h1, h2⟩ := h
  by_cases h0 : m = 0
  · subst h0
    refine ⟨v, w, fun ty => ?_, by simpa [zq] using hO, ⟨rfl, rfl, rfl, Nat.le_refl _, fun _ _ _ => rfl⟩⟩
    rcases h2 with ⟨rfl, h3⟩ | ⟨g, cap, cur, rfl, hbg, hh, hn, hmx, hs, ht⟩
    · exact runq_none w ty none 0 0 (.inl rfl) (Nat.le_refl _)
    · exact runq_none w ty _ _ cap (.inr ⟨g, rfl⟩) hn
  · rcases h2 with ⟨rfl, h3⟩ | ⟨g, cap, cur, rfl, hbg, hh, hn, hmx, hs, ht⟩
    · obtain rfl : a = [] := List.eq_nil_of_length_eq_zero h3
      obtain ⟨C, hC1, hC2, hr⟩ := runq_nil w m hm (by omega)
      refine ⟨_, _, hr, ?_, qgrown_drew _ _ _⟩
      have := oq_alloc w (zq m) (zq (C - m)) base C hb (by simp [zq_len]; omega) hC2
      simpa [zq_len] using this
    · by_cases hroom : a.length + m ≤ cap
      · have hr := fun ty => runq_room w ty g a.length cap m cur hh hm (by omega) hroom (by omega)
        refine ⟨_, _, hr, ?_, ⟨rfl, rfl, rfl, by simp, fun k _ hk => setRow_other w g k _ (fun e => hk (by simp [Value.ownBlock, e]))⟩⟩
        have hO : Oq (w.setRow g (cur.toList.take a.length ++ uv (zq m) ++ cur.toList.drop (a.length + m)).toArray) base (.slice (some ⟨g, 0, none⟩) (a ++ zq m).length cap) (a ++ zq m) := by
          refine ⟨by simp [uv_len], .inr ⟨g, cap, _, rfl, hbg, setRow_heap w g cur _ _ _ hh, by simp [zq_len]; omega, hmx, by simp [uz_len]; omega, ?_⟩⟩
          simp only [Nat.mul_one] at ht hs ⊢
          rw [ht, ← uv_app, List.toList_toArray]
          rw [show (a ++ zq m).length = (uv (a ++ zq m)).length by simp [uv_len]]
          exact List.take_left
        simpa [zq_len] using hO
      · have holds : ∀ j u, (uv a)[j]? = some u → w.cell? ((⟨g, 0, none⟩ : Addr).add j) = some u := World.ownsRow.cells (v := .slice (some ⟨g, 0, none⟩) a.length cap) ⟨h1, .inr ⟨g, cap, cur, rfl, hbg, hh, hn, hmx, hs, ht⟩⟩ rfl
        obtain ⟨C, hC1, hC2, hr⟩ := runq_grow w g a.length cap m (uv a) (by simp [uv_len]) holds hm (by omega) ha (by omega)
        refine ⟨_, _, hr, ?_, qgrown_drew _ _ _⟩
        have := oq_alloc w (a ++ zq m) (zq (C - (a.length + m))) base C hb (by simp [zq_len]; omega) hC2
        simpa [zq_len, uv_app] using this

set_option maxRecDepth 100000 in
theorem wpList_qappz {w : World} {ops : Array Oper} {rest : List Oper} {o : Oper} {a : Act} {Q : Exit → Act → World → Prop} (hgd : o.guard = none) (s x : Operand)
    (ho : o.op = .call { callee := .builtin .append, args := #[s, x], argTypes := #[35, 3] }) (v : Value) (m : Nat) (hs : a.eval s = v) (hx : a.eval x = .int .i64 (m : Int)) (base : Nat) (l : List Int)
    (hO : Oq w base v l) (ha : l.length ≤ 1000000) (hm : m ≤ 1000000) (hb : base ≤ w.heap.size) (h : ∀ v' w', Oq w' base v' (l ++ zq m) → w.grownBy w' v.ownBlock → wpList Try.prog ops Q rest (a.put o.dst v') w') : wpList Try.prog ops Q (o :: rest) a w := by
  obtain ⟨v', w', hr, h1, h2⟩ := qappz_run w base v l m hO ha hm hb
  refine wpList_plain hgd fun K hK => ?_
  have hrun := hr o.type
  unfold Oper.wp
  simp [execOp, ho, resolve, invoke, builtin, hs, hx, hrun, Result.andThen]
  exact hK _ _ (h v' w' h1 h2)
end Go.Proofs.Ytgdlilgkbjiiaaa
