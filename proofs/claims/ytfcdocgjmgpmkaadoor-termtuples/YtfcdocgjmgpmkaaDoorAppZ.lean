
/-
  append(x, make([]uint32, m)...), x nil or a row of the call's own: m limbs of 0 behind it; and relictlaw00.Limbs, relictlaw00.SameLimbs.
-/
import Derived.Test.YtfcdocgjmgpmkaaDoorZLimbA
import Derived.Laws.AppendOwnNone
namespace Go.Proofs.YtfcdocgjmgpmkaaDoor
open Go.RowKit
set_option linter.unusedVariables false
set_option linter.unusedSimpArgs false

set_option maxRecDepth 100000 in
theorem w64n (m : Nat) (h : m ≤ 1000000) : IntKind.i64.wrap (m : Int) = (m : Int) := by
  rw [IntKind.wrap_i64]; omega

set_option maxRecDepth 100000 in
theorem run_asInt64 (x : Int) (w : World) : (asInt (.int .i64 x)).run Tryd.prog w = .ok x w := by
  simp [asInt, asIntOf]

set_option maxRecDepth 100000 in
theorem zeroCells_u32 (m : Nat) : (Builtin.zeroCells (Value.int .u32 0).cells m).toList = (zer m).map (Value.int .u32) := by
  simp only [Builtin.zeroCells, Value.cells, zer, List.map_replicate]
  apply List.ext_getElem
  · simp
  · intro j h1 h2
    simp [Nat.mod_one]

set_option maxRecDepth 100000 in
theorem run_appz_room (w : World) (ty : TypeId) (g n cap m : Nat) (cur : Array Value) (hg : w.heap[g]? = some (.cells cur 47 (0, 0))) (hm : m ≤ 1000000) (h0 : 0 < m) (hroom : n + m ≤ cap) (hfit : n + m ≤ cur.size) :
    (Builtin.append_ #[22, 3] ty #[.slice (some ⟨g, 0, none⟩) n cap, .int .i64 (m : Int)]).run Tryd.prog w =
      .ok (.slice (some ⟨g, 0, none⟩) (n + m) cap) (w.setRow g (cur.toList.take n ++ (zer m).map (Value.int .u32) ++ cur.toList.drop (n + m)).toArray) := by
  obtain ⟨i, hi, hz0, hz1, hz2⟩ := info_parts Tryd.infoU32
  have h1 := w64n m hm
  have h2 : ¬ ((m : Int) < 0) := by omega
  have h3 : ¬ ((281474976710656 : Int) < (m : Int) * 4) := by omega
  have h4 : ¬ (m = 0) := by omega
  have hst := run_storeCells_at Tryd.prog g n 47 ((zer m).map (Value.int .u32)) 0 cur w hg (by simpa [zer_len] using hfit) (ints_oneCell _ _)
  simp only [Nat.add_zero] at hst
  have hzc := zeroCells_u32 m
  simp [Builtin.append_, run_underlying Tryd.underlying22, run_underlying Tryd.underlying3, sizeOf, typeInfo, zeroValue, run_asInt64, hi, hz0, hz1, hz2, h1, h3, h4, hroom, Addr.add_lit, hzc, hst, zer_len]
  intro h
  omega

set_option maxRecDepth 100000 in
theorem run_appz_none (w : World) (ty : TypeId) (a : Option Addr) (n cap : Nat) (ha : a = none ∨ ∃ g, a = some ⟨g, 0, none⟩) (hn : n ≤ cap) :
    (Builtin.append_ #[22, 3] ty #[.slice a n cap, .int .i64 0]).run Tryd.prog w = .ok (.slice a n cap) w := by
  obtain ⟨i, hi, hz0, hz1, hz2⟩ := info_parts Tryd.infoU32
  have h1 : IntKind.i64.wrap 0 = 0 := by decide
  rcases ha with rfl | ⟨g, rfl⟩
  · simp [Builtin.append_, run_underlying Tryd.underlying22, run_underlying Tryd.underlying3, sizeOf, typeInfo, zeroValue, run_asInt64, hi, hz0, hz1, hz2, h1, hn]
  · simp [Builtin.append_, run_underlying Tryd.underlying22, run_underlying Tryd.underlying3, sizeOf, typeInfo, zeroValue, run_asInt64, hi, hz0, hz1, hz2, h1, hn, storeCells]

set_option maxRecDepth 100000 in
theorem run_appz_grow (w : World) (g n cap m : Nat) (olds : List Value) (hlo : olds.length = n) (holds : ∀ j v, olds[j]? = some v → w.cell? ((⟨g, 0, none⟩ : Addr).add j) = some v)
    (hm : m ≤ 1000000) (h0 : 0 < m) (hn : n ≤ 1000000) (hroom : cap < n + m) :
    ∃ C, n + m ≤ C ∧ C ≤ maxLen ∧ ∀ ty, (Builtin.append_ #[22, 3] ty #[.slice (some ⟨g, 0, none⟩) n cap, .int .i64 (m : Int)]).run Tryd.prog w =
      .ok (.slice (some ⟨w.heap.size, 0, none⟩) (n + m) C) (w.drew.alloc (.cells (olds ++ (zer m).map (Value.int .u32) ++ (zer (C - (n + m))).map (Value.int .u32)).toArray 47)) := by
  obtain ⟨i, hi, hz0, hz1, hz2⟩ := info_parts Tryd.infoU32
  have h1 := w64n m hm
  have h2 : ¬ ((m : Int) < 0) := by omega
  have h3 : ¬ ((281474976710656 : Int) < (m : Int) * 4) := by omega
  have h4 : ¬ (m = 0) := by omega
  have h5 : ¬ (n + m ≤ cap) := by omega
  have h6 : ¬ (9223372036854775807 < ((n : Int) + (m : Int))) := by omega
  have h7 : ¬ (281474976710656 < Builtin.nextslicecap (n + m) cap * 4) := by
    have := growslice_fits (need := n + m) (old := cap) (bytes := 4) (by omega) (by omega)
    omega
  have hfo := run_firstCells_some (P := Tryd.prog) w.drew 1 n ⟨g, 0, none⟩ n cap olds (by omega) (by simpa using holds)
  refine ⟨grownCap w (n + m) cap 47, grownCap_ge _ _ _ _, grownCap_le_maxLen _ _ _ _ (by simp only [maxLen]; omega), fun ty => ?_⟩
  have hz1' := zeroCells_u32 m
  have hz2' := zeroCells_u32 (grownCap w (n + m) cap 47 - (n + m))
  simp [Builtin.append_, run_underlying Tryd.underlying22, run_underlying Tryd.underlying3, sizeOf, typeInfo, zeroValue, run_asInt64, hi, hz0, hz1, hz2, h1, h3, h4, h5, h6, h7, Question.forced, hfo, newRow, grownCap]
  rw [if_neg h2]
  simp only [Result.ok.injEq, true_and]
  congr 2
  apply Array.ext'
  simp only [Array.toList_append, List.toList_toArray]
  rw [hz1']
  have hz3 := hz2'
  simp only [grownCap] at hz3
  rw [hz3]

set_option maxRecDepth 100000 in
theorem run_appz_nil (w : World) (m : Nat) (hm : m ≤ 1000000) (h0 : 0 < m) :
    ∃ C, m ≤ C ∧ C ≤ maxLen ∧ ∀ ty, (Builtin.append_ #[22, 3] ty #[.slice none 0 0, .int .i64 (m : Int)]).run Tryd.prog w =
      .ok (.slice (some ⟨w.heap.size, 0, none⟩) m C) (w.drew.alloc (.cells ((zer m).map (Value.int .u32) ++ (zer (C - m)).map (Value.int .u32)).toArray 47)) := by
  obtain ⟨i, hi, hz0, hz1, hz2⟩ := info_parts Tryd.infoU32
  have h1 := w64n m hm
  have h2 : ¬ ((m : Int) < 0) := by omega
  have h3 : ¬ ((281474976710656 : Int) < (m : Int) * 4) := by omega
  have h4 : ¬ (m = 0) := by omega
  have h6 : ¬ (9223372036854775807 < (m : Int)) := by omega
  have h7 : ¬ (281474976710656 < Builtin.nextslicecap m 0 * 4) := by rw [nextslicecap_zero h0]; omega
  refine ⟨grownCap w m 0 47, grownCap_ge _ _ _ _, grownCap_le_maxLen _ _ _ _ (by simp only [maxLen]; omega), fun ty => ?_⟩
  have hz1' := zeroCells_u32 m
  have hz2' := zeroCells_u32 (grownCap w m 0 47 - m)
  simp [Builtin.append_, run_underlying Tryd.underlying22, run_underlying Tryd.underlying3, sizeOf, typeInfo, zeroValue, run_asInt64, hi, hz0, hz1, hz2, h1, h3, h4, h6, h7, Question.forced, run_firstCells_none, newRow, grownCap]
  rw [if_neg h2]
  simp only [Result.ok.injEq, true_and]
  congr 2
  apply Array.ext'
  simp only [Array.toList_append, List.toList_toArray]
  rw [hz1']
  have hz3 := hz2'
  simp only [grownCap] at hz3
  rw [hz3]

/-- A row of the call's own that holds just these limbs, with whatever room behind. -/
def Owns (w : World) (base : Nat) (v : Value) (a : List Int) : Prop := w.ownsRow base 47 1 v a.length (a.map (Value.int .u32))

set_option maxRecDepth 100000 in
theorem Owns.sl {w : World} {base : Nat} {v : Value} {a : List Int} (h : Owns w base v a) (hok : Ok a) : Sl w v a := by
  obtain ⟨h1, h2⟩ := h
  rcases h2 with ⟨rfl, h3⟩ | ⟨g, cap, cur, rfl, hb, hh, hn, hm, hs, ht⟩
  · obtain rfl : a = [] := List.eq_nil_of_length_eq_zero h3
    exact Sl.nil w
  · refine ⟨hok, _, _, _, rfl, rfl, hn, by simpa [maxLen] using hm, fun e => (by cases e), fun h0 => ⟨g, 0, rfl, (Array.getElem?_eq_some_iff.1 hh).1, fun i hi => ?_⟩⟩
    rw [Nat.zero_add, cell_of_row w g i _ _ _ hh]
    have e := congrArg (fun l : List Value => l[i]?) ht
    simp only [Nat.mul_one, List.getElem?_take_of_lt hi, List.getElem?_map, Array.getElem?_toList] at e
    rw [e]
    simp [List.getD, hi]

set_option maxRecDepth 100000 in
theorem owns_alloc (w : World) (a rest : List Int) (base C : Nat) (hb : base ≤ w.heap.size) (hC : a.length + rest.length = C) (hm : C ≤ maxLen) :
    Owns (w.drew.alloc (.cells (a.map (Value.int .u32) ++ rest.map (Value.int .u32)).toArray 47)) base (.slice (some ⟨w.heap.size, 0, none⟩) a.length C) a := by
  refine ⟨by simp, .inr ⟨w.heap.size, C, _, rfl, hb, heap_alloc_new w.drew _, by omega, hm, by simp; omega, ?_⟩⟩
  simp

set_option maxRecDepth 100000 in
theorem appz_run (w : World) (base : Nat) (v : Value) (a : List Int) (m : Nat) (h : Owns w base v a) (hok : Ok a) (ha : a.length ≤ 1000000) (hm : m ≤ 1000000) (hb : base ≤ w.heap.size) :
    ∃ v' w', (∀ ty, (Builtin.append_ #[22, 3] ty #[v, .int .i64 (m : Int)]).run Tryd.prog w = .ok v' w') ∧ Sl w' v' (a ++ zer m) ∧ Below base w w' := by
  have hsl := h.sl hok
  obtain ⟨h1, h2⟩ := h
  have hok' : Ok (a ++ zer m) := hok.append (zer_ok m)
  by_cases h0 : m = 0
  · subst h0
    refine ⟨v, w, fun ty => ?_, by simpa [zer] using hsl, Below.refl _ _⟩
    rcases h2 with ⟨rfl, h3⟩ | ⟨g, cap, cur, rfl, hbg, hh, hn, hmx, hs, ht⟩
    · exact run_appz_none w ty none 0 0 (.inl rfl) (Nat.le_refl _)
    · exact run_appz_none w ty _ _ cap (.inr ⟨g, rfl⟩) hn
  · rcases h2 with ⟨rfl, h3⟩ | ⟨g, cap, cur, rfl, hbg, hh, hn, hmx, hs, ht⟩
    · obtain rfl : a = [] := List.eq_nil_of_length_eq_zero h3
      obtain ⟨C, hC1, hC2, hr⟩ := run_appz_nil w m hm (by omega)
      refine ⟨_, _, hr, ?_, ((Below.refl base w).drew).alloc hb _⟩
      have := (owns_alloc w (zer m) (zer (C - m)) base C hb (by simp [zer_len]; omega) hC2).sl (zer_ok m)
      simpa [zer_len] using this
    · by_cases hroom : a.length + m ≤ cap
      · have hr := fun ty => run_appz_room w ty g a.length cap m cur hh hm (by omega) hroom (by omega)
        refine ⟨_, _, hr, ?_, below_setRow (Below.refl base w) hbg _⟩
        have hO : Owns (w.setRow g (cur.toList.take a.length ++ (zer m).map (Value.int .u32) ++ cur.toList.drop (a.length + m)).toArray) base (.slice (some ⟨g, 0, none⟩) (a ++ zer m).length cap) (a ++ zer m) := by
          refine ⟨by simp, .inr ⟨g, cap, _, rfl, hbg, setRow_heap w g cur _ _ _ hh, by simp [zer_len]; omega, hmx, by simp [zer_len]; omega, ?_⟩⟩
          simp only [Nat.mul_one] at ht hs ⊢
          rw [ht, ← List.map_append, List.toList_toArray]
          rw [show (a ++ zer m).length = ((a ++ zer m).map (Value.int .u32)).length by simp]
          exact List.take_left
        have := hO.sl hok'
        simpa [zer_len] using this
      · have holds : ∀ j u, (a.map (Value.int .u32))[j]? = some u → w.cell? ((⟨g, 0, none⟩ : Addr).add j) = some u := World.ownsRow.cells (v := .slice (some ⟨g, 0, none⟩) a.length cap) ⟨h1, .inr ⟨g, cap, cur, rfl, hbg, hh, hn, hmx, hs, ht⟩⟩ rfl
        obtain ⟨C, hC1, hC2, hr⟩ := run_appz_grow w g a.length cap m (a.map (Value.int .u32)) (by simp) holds hm (by omega) ha (by omega)
        refine ⟨_, _, hr, ?_, ((Below.refl base w).drew).alloc hb _⟩
        have := (owns_alloc w (a ++ zer m) (zer (C - (a.length + m))) base C hb (by simp [zer_len]; omega) hC2).sl hok'
        simpa [zer_len] using this

set_option maxRecDepth 100000 in
theorem wpList_appz {w : World} {ops : Array Oper} {rest : List Oper} {o : Oper} {a : Act} {Q : Exit → Act → World → Prop} (hgd : o.guard = none) (s x : Operand)
    (ho : o.op = .call { callee := .builtin .append, args := #[s, x], argTypes := #[22, 3] }) (v : Value) (m : Int) (hs : a.eval s = v) (hx : a.eval x = .int .i64 m) (v' : Value) (w' : World)
    (hr : ∀ ty, (Builtin.append_ #[22, 3] ty #[v, .int .i64 m]).run Tryd.prog w = .ok v' w') (h : wpList Tryd.prog ops Q rest (a.put o.dst v') w') : wpList Tryd.prog ops Q (o :: rest) a w := by
  refine wpList_plain hgd fun K hK => ?_
  have hrun := hr o.type
  unfold Oper.wp
  simp [execOp, ho, resolve, invoke, builtin, hs, hx, hrun, Result.andThen]
  exact hK _ _ h
end Go.Proofs.YtfcdocgjmgpmkaaDoor
