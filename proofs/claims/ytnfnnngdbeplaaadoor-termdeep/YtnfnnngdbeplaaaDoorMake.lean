/-
  make and copy of slices of uint32, as the walks want them.
-/
import Derived.Test.YtnfnnngdbeplaaaDoorAddT
namespace Go.Proofs.YtnfnnngdbeplaaaDoor
open Go.RowKit

/-- n limbs of 0. -/
def zer (n : Nat) : List Int := List.replicate n 0
theorem zer_len (n : Nat) : (zer n).length = n := by simp [zer]
theorem zer_at (n j : Nat) : (zer n).getD j 0 = 0 := by
  simp only [zer, List.getD_eq_getElem?_getD, List.getElem?_replicate]
  split <;> rfl
theorem zer_ok (n : Nat) : Ok (zer n) := Ok.rep n
theorem zer_V (n : Nat) : V (zer n) = 0 := V_rep n

theorem Tryd.infoU32 : (Tryd.prog.info? 49).map (fun i => (i.zero, i.size, i.bytes)) = some (some (.int .u32 0), 1, 4) := by kernel_rfl
theorem Tryd.sizeU32 : (Tryd.prog.info? 49).map (·.size) = some 1 := by kernel_rfl

theorem row_of_owns {w : World} {base g n : Nat} (h : w.ownsRow base 49 1 (.slice (some ⟨g, 0, none⟩) n n) n (madeCells (Value.int .u32 0).cells (n * 1)).toList) : Row w g (zer n) := by
  obtain ⟨_, h2⟩ := h
  rcases h2 with ⟨h3, _⟩ | ⟨g', cap, cur, hv, _, hh, _, _, hs, ht⟩
  · simp at h3
  · simp only [Value.slice.injEq, Option.some.injEq, Addr.mk.injEq] at hv
    obtain ⟨⟨rfl, _⟩, _, rfl⟩ := hv
    unfold Row
    rw [hh]
    have e : cur.toList = (zer n).map (Value.int .u32) := by
      rw [Nat.mul_one] at ht hs
      rw [List.take_of_length_le (by simp [hs])] at ht
      rw [ht]
      have := toList_madeCells_one (.int .u32 0) n
      simpa [Value.cells, zer] using this
    rw [← e]

theorem wpList_make_u32 {w : World} {ops : Array Oper} {rest : List Oper} {o : Oper} {a : Act} {Q : Exit → Act → World → Prop} (hgd : o.guard = none) (l c : Operand)
    (ho : o.op = .makeSlice 22 l c) (L C : Int) (n : Nat) (hl : a.eval l = .int .i64 L) (hc : a.eval c = .int .i64 C) (hL : L = n) (hC : C = n) (hn : n ≤ 70368744177664)
    (h : ∀ w', Row w' w.heap.size (zer n) → Below w.heap.size w w' → wpList Tryd.prog ops Q rest (a.put o.dst (.slice (some ⟨w.heap.size, 0, none⟩) n n)) w') : wpList Tryd.prog ops Q (o :: rest) a w := by
  obtain ⟨i, hi, hz0, hz1, hz2⟩ := info_parts Tryd.infoU32
  refine wpList_make_full w hgd l c 22 ho w.heap.size 49 i (.int .u32 0) 1 Tryd.underlying22 hi hz0 hz1 .i64 .i64 L C n hl hc hL hC (by rw [hz2]; omega) (by simp only [maxLen]; omega) (Nat.le_refl _) ?_
  intro w' hown hgr
  exact h w' (row_of_owns hown) ⟨hgr.os, hgr.tape, hgr.output, hgr.size, fun k hk => hgr.block k hk (by simp)⟩

/-- The row behind a copy: L laid over Z from off on. -/
def over (Z : List Int) (off : Nat) (L : List Int) : List Int := Z.take off ++ (L ++ Z.drop (off + L.length))

theorem over_len (Z : List Int) (off : Nat) (L : List Int) (h : off + L.length ≤ Z.length) : (over Z off L).length = Z.length := by simp [over]; omega
theorem over_ok {Z L : List Int} (hZ : Ok Z) (hL : Ok L) (off : Nat) : Ok (over Z off L) := (hZ.take _).append (hL.append (hZ.drop _))
theorem over_nil (Z : List Int) (off : Nat) : over Z off [] = Z := by simp [over]

theorem copy_run (w : World) (g off dLen dCap : Nat) (sp : Option Addr) (sLen sCap : Nat) (Z L : List Int) (hrow : Row w g Z) (hs : Sl w (.slice sp sLen sCap) L) (hfit : off + L.length ≤ Z.length) (hd : L.length ≤ dLen) :
    ∃ w', (∀ ty, (Builtin.copy_ #[22, 22] ty #[.slice (some ⟨g, off, none⟩) dLen dCap, .slice sp sLen sCap]).run Tryd.prog w = .ok (.int .i64 (L.length : Int)) w') ∧ Row w' g (over Z off L) ∧ But g w w' := by
  obtain ⟨hok, a', n', cap', he, hl, h1, h2, h3, hp⟩ := hs
  injection he with e1 e2 e3
  subst e1; subst e2; subst e3
  by_cases h0 : L.length = 0
  · have hr := fun ty => run_copy_none (P := Tryd.prog) w 22 22 ty 49 (some ⟨g, off, none⟩) sp dLen dCap sLen sCap Tryd.underlying22 Tryd.sizeU32 (by rw [← hl, h0]; simp)
    obtain rfl : L = [] := List.eq_nil_of_length_eq_zero h0
    exact ⟨w, hr, by rw [over_nil]; exact hrow, But.refl _ _⟩
  · obtain ⟨b, o2, rfl, hb, hc⟩ := hp (by omega)
    have hrow' := hrow
    unfold Row at hrow'
    have hr := fun ty => run_copy_row (P := Tryd.prog) w 22 22 ty 49 g off dLen dCap ⟨b, o2, none⟩ sLen sCap _ _ (L.map (Value.int .u32)) Tryd.underlying22 Tryd.sizeU32 hrow'
      (by simp only [List.length_map]; rw [hl]; exact (Nat.min_eq_left (by omega)).symm)
      (fun j v hj => by
        rw [List.getElem?_map] at hj
        by_cases hjl : j < L.length
        · rw [List.getElem?_eq_getElem hjl] at hj
          simp at hj
          have := hc j (by omega)
          simp [List.getD, hjl] at this
          rw [show (⟨b, o2, none⟩ : Addr).add j = ⟨b, o2 + j, none⟩ by unfold Addr.add; split <;> simp_all]
          rw [← hj]; exact this
        · rw [List.getElem?_eq_none (by omega)] at hj
          cases hj)
      (by simp; omega) (ints_oneCell _ _)
    refine ⟨w.setRow g ((over Z off L).map (Value.int .u32)).toArray, fun ty => (hr ty).trans ?_, ?_, ⟨rfl, rfl, rfl, by simp [World.setRow], fun k hk => setRow_other w g k _ hk⟩⟩
    · simp [goInt, over, List.map_take, List.map_drop]
    · unfold Row
      rw [setRow_heap w g _ _ _ _ hrow']
end Go.Proofs.YtnfnnngdbeplaaaDoor
