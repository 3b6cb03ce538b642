/-
  iff: putCount, add; append(b, make([]byte, m)...).
-/
import Derived.Test.YtifofcodmgglkaaIffA
import Derived.Maps.AppendAt
import Derived.StringKeys
import Derived.Laws.AppendOwnNone
namespace Go.Proofs.Ytifofcodmgglkaa
open Go.RowKit Go.Maps Go.ChangeMaps
set_option linter.unusedVariables false
set_option linter.unusedSimpArgs false

theorem Nms.put {w' : World} {b n : Nat} {acc : List Ck} {D : DataW Unit} {c : Ck} (h : ∀ s : ByteArray, Maps.has D (.string s.data.toList) = hasN acc s) (hm : IsMap D) (h1 : w'.ownsMap Try.prog 9 (unitElem (H := Unit)) b (n + 1) (D.put (.string c.1.data.toList) (.agg []))) : Nms w' b (n + 1) (acc ++ [c]) := by
  refine ⟨_, h1, fun s => ?_⟩
  rw [has_more]
  by_cases e : c.1.data.toList = s.data.toList
  · rw [← e, has_put_same hm (by exact trivial)]
    simp
  · rw [has_put_other (by intro x; injection x with x; exact e x.symm), h s, show (c.1.data.toList == s.data.toList) = false from beq_eq_false_iff_ne.2 e, Bool.or_false]

def AddPost (w : World) (b n : Nat) (acc : List Ck) (c : Ck) (e : Ending) (w' : World) : Prop :=
  e = .returned (.bool (!hasN acc c.1)) ∧ (hasN acc c.1 = false → Nms w' b (n + 1) (acc ++ [c])) ∧ w.grownBy w' (some b)

set_option maxHeartbeats 1000000 in
theorem add_any (b n : Nat) (acc : List Ck) (c : Ck) (w : World) (h : Nms w b n acc) (hn : (n : Int) ≤ 1000000000000000) (hs : (c.1.size : Int) ≤ 140737488355328) :
    Calls Try.prog 31 #[.map (some b), .string c.1] w fun e w' => AddPost w b n acc c e w' := by
  obtain ⟨D, hown, hD⟩ := h
  have hkey : keyOf Try.prog 9 (.string c.1) = some (.string c.1.data.toList) := WideMaps.keyOf_string_mk Try.underlying9 (by unfold maxLen; omega)
  have him := hown.isMap
  have hDc := hD c.1
  have HD : Hid _ := hD
  have hlt := hown.lt
  clear hD
  obtain ⟨q, hq⟩ : ∃ q, q = hasN acc c.1 := ⟨_, rfl⟩
  have HQ : Hid (q = hasN acc c.1) := hq
  rw [← hq] at hDc
  clear hq
  go_enter Try.func31, Try.ntmps31
  cases q
  · go_wp2_with (first
      | (at_lookup; refine wpList_lookup_own_unit _ rfl _ _ 58 rfl 9 61 law9 Try.underlying58 (zeroUnit _) b n _ rfl hown _ _ rfl hkey ?_; rw [hDc])
      | (at_mapUpdate; refine wpList_mapUpdate_own _ rfl _ _ _ 58 rfl 9 61 law9 Try.underlying58 (unitElem (H := Unit)) b n _ rfl (hown.alloc _) (by unfold maxLen; omega) _ _ _ rfl rfl hkey _ [] unitElem_mk ?_; intro w1 hown1 hgrow1)
      | go_in)
    go_ret
    refine ⟨ret_bool (by rw [← HQ.out]; rfl), fun _ => Nms.put HD.out him hown1, ?_⟩
    exact (World.grownBy_alloc w _ (some b)).trans hgrow1
  · go_wp2_with (first
      | (at_lookup; refine wpList_lookup_own_unit _ rfl _ _ 58 rfl 9 61 law9 Try.underlying58 (zeroUnit _) b n _ rfl hown _ _ rfl hkey ?_; rw [hDc])
      | go_in)
    go_ret
    refine ⟨ret_bool (by rw [← HQ.out]; rfl), fun h => ?_, World.grownBy_alloc w _ (some b)⟩
    rw [← HQ.out] at h
    cases h

theorem u8v (n : Nat) : (n : Int) % 256 = ((UInt8.ofNat n).toNat : Int) := by simp
def CntPost (w : World) (base : Nat) (v : Value) (l : List UInt8) (n : Nat) (e : Ending) (w' : World) : Prop :=
  ∃ v', e = .returned v' ∧ OB w' base v' (l ++ four n) ∧ w.grownBy w' v.ownBlock
theorem four_vals (n : Nat) (hn : (n : Int) ≤ 4294967295) : bv (four n) = [Value.int .u8 ((n : Int) / 16777216), Value.int .u8 ((n : Int) / 65536 % 256), Value.int .u8 ((n : Int) / 256 % 256), Value.int .u8 ((n : Int) % 256)] := by
  simp only [bv, four, List.map_cons, List.map_nil, ← u8v]
  simp
  omega
theorem new_cells (w : World) (cs : List Value) (t : TypeId) (j : Nat) (u : Value) (hj : cs[j]? = some u) : (w.alloc (.cells cs.toArray t)).cell? ((⟨w.heap.size, 0, none⟩ : Addr).add j) = some u := by
  rw [show (⟨w.heap.size, 0, none⟩ : Addr).add j = ⟨w.heap.size, j, none⟩ by unfold Addr.add; split <;> simp_all, World.cell?_alloc_mark]
  simpa using hj
theorem bv_one (l : List UInt8) : ∀ u ∈ bv l, u.oneCell' = true := by
  intro u hu
  simp only [bv, List.mem_map] at hu
  obtain ⟨b, _, rfl⟩ := hu
  rfl

set_option maxHeartbeats 1000000 in
theorem putCount_any (base : Nat) (v : Value) (l : List UInt8) (n : Nat) (w : World) (h : OB w base v l) (hl : (l.length : Int) ≤ 1000000) (hn : (n : Int) ≤ 4294967295) (hb : base ≤ w.heap.size) :
    Calls Try.prog 25 #[v, .int .i64 (n : Int)] w fun e w' => CntPost w base v l n e w' := by
  obtain ⟨i0, hi, hz0, hz1, hz2⟩ := info_parts Try.infoU8
  have HV : Hid _ := four_vals n hn
  go_enter Try.func25, Try.ntmps25
  go_wp2_with (first
      | (at_builtin; refine wpList_append_own _ rfl _ _ 22 rfl base 5 i0 (.int .u8 0) 1 1 Try.underlying22 hi hz0 hz1 hz2 rfl (by decide) _ _ _ rfl (World.ownsRow.alloc h _) ⟨w.heap.size, 0, none⟩ 4 4 (bv (four n)) rfl rfl (by rw [HV.out]; exact new_cells w _ _) (bv_one _) (by unfold maxLen; omega) (by omega) (by simp; omega) ?_; intro v' w2 hown' hgrow2 hnil2)
      | go_in)
  go_ret
  exact ⟨v', rfl, OB.more hown' rfl, (World.grownBy_alloc w _ _).trans hgrow2⟩
end Go.Proofs.Ytifofcodmgglkaa
