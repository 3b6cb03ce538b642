/-
  Bytes as the walks want them: By (a slice that is read), OB (a row of the call's own), and what is done with them.
-/
import Derived.Test.YtfjibcldghnjcaaDoorProg
import Derived.Test.YtfjibcldghnjcaaDoorByMath
import Derived.WalkKit
import Derived.WalkSpells
import Derived.WalkLawsBesides
import Derived.Lib.AppendStr
import Derived.Lib.Strings
import Derived.Laws.IdiomStrings
import Derived.Laws.BitsAllLaws
import Derived.Laws.AppendOwnNone
import Derived.Deep.RegionLaw
import Derived.BigQuiet
import Derived.Deep.LoopGhost
import Derived.Deep.Cut
namespace Go.Proofs.YtfjibcldghnjcaaDoor
open Go.RowKit
set_option linter.unusedVariables false
set_option linter.unusedSimpArgs false

/-- Bytes as values. -/
def bv (l : List UInt8) : List Value := l.map fun b => Value.int .u8 (b.toNat : Int)
theorem bv_len (l : List UInt8) : (bv l).length = l.length := by simp [bv]
theorem bv_app (a b : List UInt8) : bv (a ++ b) = bv a ++ bv b := by simp [bv]
theorem bv_str (s : ByteArray) : Lib.strCells s = bv s.data.toList := rfl
/-- The slice v has in w the bytes l. -/
def By (w : World) (v : Value) (l : List UInt8) : Prop :=
  ∃ a cap, v = .slice a l.length cap ∧ l.length ≤ cap ∧ cap ≤ 9223372036854775807 ∧ (a = none → cap = 0) ∧
    (0 < l.length → ∃ b off, a = some ⟨b, off, none⟩ ∧ b < w.heap.size ∧ ∀ i, i < l.length → w.cell? ⟨b, off + i, none⟩ = some (.int .u8 ((l.getD i 0).toNat : Int)))
theorem By.nil (w : World) : By w (.slice none 0 0) [] := ⟨none, 0, rfl, Nat.le_refl _, by decide, fun _ => rfl, fun h => absurd h (by decide)⟩
theorem By.shape {w : World} {v : Value} {l : List UInt8} (h : By w v l) : ∃ a cap, v = .slice a l.length cap ∧ l.length ≤ cap ∧ (cap : Int) ≤ 9223372036854775807 ∧ (a = none → cap = 0) := by
  obtain ⟨a, cap, rfl, h1, h2, h3, _⟩ := h
  exact ⟨a, cap, rfl, h1, by omega, h3⟩
theorem By.under {w w' : World} {v : Value} {l : List UInt8} (h : By w v l) (hb : Below w.heap.size w w') : By w' v l := by
  obtain ⟨a, cap, rfl, hl, hc, hn, hp⟩ := h
  refine ⟨a, cap, rfl, hl, hc, hn, fun h0 => ?_⟩
  obtain ⟨b, off, rfl, hlt, hcell⟩ := hp h0
  refine ⟨b, off, rfl, Nat.lt_of_lt_of_le hlt hb.size, fun i hi => ?_⟩
  rw [hb.cell (p := ⟨b, off + i, none⟩) hlt]
  exact hcell i hi
theorem By.at {w : World} {a : Option Addr} {n cap : Nat} {l : List UInt8} (h : By w (.slice a n cap) l) (k : Nat) (hk : k < l.length) :
    ∃ b off, a = some ⟨b, off, none⟩ ∧ b < w.heap.size ∧ ∀ i, i < l.length → w.cell? ⟨b, off + i, none⟩ = some (.int .u8 ((l.getD i 0).toNat : Int)) := by
  obtain ⟨a', cap', he, _, _, _, hp⟩ := h
  injection he with e1 e2 e3
  subst e1; subst e2; subst e3
  exact hp (by omega)
theorem getD_take (l : List UInt8) (m i : Nat) (h : i < m) : (l.take m).getD i 0 = l.getD i 0 := by simp [List.getD, List.getElem?_take, h]
theorem getD_drop (l : List UInt8) (q i : Nat) : (l.drop q).getD i 0 = l.getD (q + i) 0 := by simp [List.getD]
/-- 'b[:m]', with whatever room. -/
theorem By.take {w : World} {a : Option Addr} {n cap : Nat} {l : List UInt8} (h : By w (.slice a n cap) l) (m c : Nat) (hm : m ≤ l.length) (hc : m ≤ c) (hc2 : c ≤ cap) : By w (.slice a m c) (l.take m) := by
  obtain ⟨a', cap', he, hl, hx, hn, hp⟩ := h
  injection he with e1 e2 e3
  subst e1; subst e2; subst e3
  have hlen : (l.take m).length = m := by simp; omega
  refine ⟨a, c, by rw [hlen], by rw [hlen]; exact hc, by omega, fun e => by have := hn e; omega, fun h0 => ?_⟩
  obtain ⟨b, off, rfl, hlt, hcell⟩ := hp (by omega)
  exact ⟨b, off, rfl, hlt, fun i hi => by rw [getD_take _ _ _ (by omega)]; exact hcell i (by omega)⟩
/-- 'b[q:]' -/
theorem By.drop {w : World} {b off n cap : Nat} {l : List UInt8} (h : By w (.slice (some ⟨b, off, none⟩) n cap) l) (q : Nat) (hq : q ≤ l.length) : By w (.slice (some ⟨b, off + q, none⟩) (l.length - q) (cap - q)) (l.drop q) := by
  obtain ⟨a', cap', he, hl, hx, hn, hp⟩ := h
  injection he with e1 e2 e3
  subst e1; subst e2; subst e3
  have hlen : (l.drop q).length = l.length - q := by simp
  refine ⟨_, cap - q, by rw [hlen], by rw [hlen]; omega, by omega, fun e => (by cases e), fun h0 => ?_⟩
  obtain ⟨b', off', he, hlt, hcell⟩ := hp (by omega)
  simp at he
  obtain ⟨rfl, rfl⟩ := he
  refine ⟨b, off + q, rfl, hlt, fun i hi => ?_⟩
  rw [getD_drop, show off + q + i = off + (q + i) by omega]
  exact hcell _ (by omega)
set_option maxRecDepth 100000 in
/-- string(b). -/
theorem By.text {w : World} {a : Option Addr} {n cap : Nat} {l : List UInt8} (h : By w (.slice a n cap) l) : (convert 42 9 (.slice a n cap)).run Tryd.prog w = .ok (.string ⟨l.toArray⟩) w := by
  obtain ⟨a', cap', he, hl, hx, hn, hp⟩ := h
  injection he with e1 e2 e3
  subst e1; subst e2; subst e3
  by_cases h0 : 0 < l.length
  · obtain ⟨b, off, rfl, hlt, hcell⟩ := hp h0
    refine run_convert_bytes_back w _ _ 5 _ cap l Tryd.underlying42 Tryd.underlying5 Tryd.underlying9 (fun j hj => ?_)
    have h1 := hcell j hj
    rw [show (⟨b, off, none⟩ : Addr).add j = ⟨b, off + j, none⟩ by unfold Addr.add; split <;> simp_all, h1]
    simp [List.getD, hj]
  · obtain rfl : l = [] := List.eq_nil_of_length_eq_zero (by omega)
    rw [run_convert_bytes_string w _ _ 5 _ _ _ Tryd.underlying42 Tryd.underlying5 Tryd.underlying9]
    cases a with
    | none => rfl
    | some ad =>
      have hl := run_loadCells_list (P := Tryd.prog) w ad ([] : List Value) (fun j v hj => by simp at hj)
      exact run_bytesToString w ad 0 cap [] hl
/-- A row of bytes of the call's own. -/
def OB (w : World) (base : Nat) (v : Value) (l : List UInt8) : Prop := w.ownsRow base 5 1 v l.length (bv l)
theorem OB.by {w : World} {base : Nat} {v : Value} {l : List UInt8} (h : OB w base v l) : By w v l := by
  obtain ⟨h1, h2⟩ := h
  rcases h2 with ⟨rfl, h3⟩ | ⟨g, cap, cur, rfl, hb, hh, hn, hm, hs, ht⟩
  · obtain rfl : l = [] := List.eq_nil_of_length_eq_zero h3
    exact By.nil w
  · refine ⟨_, cap, rfl, hn, by simpa [maxLen] using hm, fun e => (by cases e), fun h0 => ⟨g, 0, rfl, (Array.getElem?_eq_some_iff.1 hh).1, fun i hi => ?_⟩⟩
    rw [Nat.zero_add, cell_of_row w g i _ _ _ hh]
    have e := congrArg (fun l : List Value => l[i]?) ht
    simp only [Nat.mul_one, List.getElem?_take_of_lt hi, Array.getElem?_toList] at e
    rw [e]
    simp [List.getD, hi, bv]
theorem OB.nil (w : World) (base : Nat) : OB w base (.slice none 0 0) [] := World.ownsRow_nil _ _ _ _
theorem OB.under {w w' : World} {base : Nat} {v : Value} {l : List UInt8} (h : OB w base v l) (hb : Below w.heap.size w w') : OB w' base v l := by
  obtain ⟨h1, h2⟩ := h
  refine ⟨h1, ?_⟩
  rcases h2 with h3 | ⟨g, cap, cur, rfl, hb1, hh, h4⟩
  · exact .inl h3
  · exact .inr ⟨g, cap, cur, rfl, hb1, by rw [hb.block g (Array.getElem?_eq_some_iff.1 hh).1]; exact hh, h4⟩
theorem OB.more {w : World} {base : Nat} {v : Value} {l m : List UInt8} {n : Nat} (h : w.ownsRow base 5 1 v n (bv l ++ bv m)) (hn : n = l.length + m.length) : OB w base v (l ++ m) := by
  unfold OB
  rw [bv_app]
  have : (l ++ m).length = n := by simp [hn]
  rw [this]
  exact h
theorem Tryd.infoB : (Tryd.prog.info? 5).map (fun i => (i.zero, i.size, i.bytes)) = some (some (.int .u8 0), 1, 1) := by kernel_rfl
theorem ret_bool {a b : Bool} (h : a = b) : Ending.returned (.bool a) = .returned (.bool b) := by rw [h]
theorem ret_int {k : IntKind} {a b : Int} (h : a = b) : Ending.returned (.int k a) = .returned (.int k b) := by rw [h]
theorem ubd (l : List UInt8) (i : Nat) : 0 ≤ ((l.getD i 0).toNat : Int) ∧ ((l.getD i 0).toNat : Int) ≤ 255 := by
  have := (l.getD i 0).toNat_lt
  omega
theorem i64_or_nat (a b : Nat) (ha : a < 4611686018427387904) (hb : b < 4611686018427387904) : bits .or .i64 (a : Int) (b : Int) = ((a ||| b : Nat) : Int) := by
  have hx : a ||| b < 2 ^ 62 := Nat.or_lt_two_pow (by omega) (by omega)
  show IntKind.i64.wrap ((BitVec.ofInt 64 (a : Int) ||| BitVec.ofInt 64 (b : Int)).toNat : Int) = _
  rw [BitVec.toNat_or, ofInt_u64 a (by omega), ofInt_u64 b (by omega), IntKind.wrap_i64]
  omega
theorem or_join (i : Nat) (x y : Int) (hx0 : 0 ≤ x) (hx1 : x < 4611686018427387904) (hx : x % ((2 ^ i : Nat) : Int) = 0) (hy0 : 0 ≤ y) (hy1 : y < 4611686018427387904) (hy : y < ((2 ^ i : Nat) : Int)) : bits .or .i64 x y = x + y := by
  obtain ⟨X, rfl⟩ := Int.eq_ofNat_of_zero_le hx0
  obtain ⟨Y, rfl⟩ := Int.eq_ofNat_of_zero_le hy0
  rw [i64_or_nat _ _ (by omega) (by omega), nat_join i X Y (by exact_mod_cast hx) (by exact_mod_cast hy)]
  simp
theorem u8v (n : Nat) : (n : Int) % 256 = ((UInt8.ofNat n).toNat : Int) := by simp
theorem four_vals (n : Nat) (hn : (n : Int) ≤ 4294967295) : bv (four n) = [Value.int .u8 ((n : Int) / 16777216), Value.int .u8 ((n : Int) / 65536 % 256), Value.int .u8 ((n : Int) / 256 % 256), Value.int .u8 ((n : Int) % 256)] := by
  simp only [bv, four, List.map_cons, List.map_nil, ← u8v]
  simp
  omega
theorem new_cells (w : World) (cs : List Value) (t : TypeId) (j : Nat) (u : Value) (hj : cs[j]? = some u) : (w.alloc (.cells cs.toArray t)).cell? ((⟨w.heap.size, 0, none⟩ : Addr).add j) = some u := by
  rw [show (⟨w.heap.size, 0, none⟩ : Addr).add j = ⟨w.heap.size, j, none⟩ by unfold Addr.add; split <;> simp_all, World.cell?_alloc_mark]
  simpa using hj
theorem bv_one (l : List UInt8) : ∀ u ∈ bv l, u.oneCell' = true := by
  intro u hu
  simp only [bv, List.mem_map] at hu
  obtain ⟨b, _, rfl⟩ := hu
  rfl
theorem tl_eq (s : ByteArray) : s.toList = s.data.toList := Lib.toList_data s
theorem OB.grown {w w' : World} {base : Nat} {v : Value} {l : List UInt8} {row : Option Nat} (h : OB w base v l) (hg : w.grownBy w' row) (hne : v.ownBlock ≠ row ∨ row = none) : OB w' base v l := by
  obtain ⟨h1, h2⟩ := h
  refine ⟨h1, ?_⟩
  rcases h2 with h3 | ⟨g, cap, cur, rfl, hb1, hh, h4⟩
  · exact .inl h3
  · refine .inr ⟨g, cap, cur, rfl, hb1, ?_, h4⟩
    rw [hg.block g (Array.getElem?_eq_some_iff.1 hh).1 (by rcases hne with h | h; · exact h
                                                           · rw [h]; simp)]
    exact hh
theorem OB.belowG {w w' : World} {base B : Nat} {v : Value} {l : List UInt8} {W : World} (h : OB w base v l) (hb : Below B W w) (hg : w.grownBy w' v.ownBlock) (hB : B ≤ w.heap.size) (hbase : B ≤ base) : Below B W w' :=
  hb.grown hg hB (fun j hj => Nat.le_trans hbase (World.ownsRow.lt h j hj).1)
theorem far {w w' : World} {row : Option Nat} (hg : w.grownBy w' row) (a : Addr) (hlt : a.block < w.heap.size) (hne : some a.block ≠ row) : w'.cell? a = w.cell? a := World.cell?_of_block (hg.block a.block hlt hne)
/-- 'b[q:]', as the model has it. -/
theorem By.dropI {w : World} {b off n cap : Nat} {l : List UInt8} (h : By w (.slice (some ⟨b, off, none⟩) n cap) l) (q ob : Nat) (hq : q ≤ l.length) (hob : ob = if cap = q then off else off + q) : By w (.slice (some ⟨b, ob, none⟩) (l.length - q) (cap - q)) (l.drop q) := by
  by_cases e : cap = q
  · obtain ⟨a', cap', he, hl, hx, hn, hp⟩ := h
    injection he with e1 e2 e3
    subst e3
    have : l.drop q = [] := List.drop_eq_nil_of_le (by omega)
    rw [this, show l.length - q = 0 by omega]
    exact ⟨_, cap - q, rfl, by simp, by omega, fun e => (by cases e), fun h0 => absurd h0 (by simp)⟩
  · rw [hob, if_neg e]
    exact h.drop q hq
/-- A byte of a row of the call's own is written. -/
theorem OB.set {w : World} {base g cap n : Nat} {l : List UInt8} (h : OB w base (.slice (some ⟨g, 0, none⟩) n cap) l) (i : Nat) (hi : i < l.length) (z : Int) (b : UInt8) (hz : z = (b.toNat : Int)) : OB (w.setCell ⟨g, i, none⟩ (.int .u8 z)) base (.slice (some ⟨g, 0, none⟩) n cap) (l.set i b) := by
  obtain ⟨h1, h2⟩ := h
  rcases h2 with ⟨he, _⟩ | ⟨g', cap', cur, he, hb, hh, hn, hm, hs, ht⟩
  · simp at he
  · simp only [Value.slice.injEq, Option.some.injEq, Addr.mk.injEq, and_true] at he
    obtain ⟨rfl, rfl, rfl⟩ := he
    refine ⟨by simp [bv_len], .inr ⟨g, cap, cur.setIfInBounds i (.int .u8 z), by simp, hb, ?_, by simpa using hn, hm, by simpa using hs, ?_⟩⟩
    · simp [World.setCell, Array.getElem?_modify, hh]
    · simp only [Nat.mul_one] at ht ⊢
      rw [List.length_set, Array.toList_setIfInBounds, List.take_set, ht, hz]
      simp [bv, List.map_set]
theorem OB.facts {w : World} {base g cap n : Nat} {l : List UInt8} (h : OB w base (.slice (some ⟨g, 0, none⟩) n cap) l) (i : Nat) (hi : i < l.length) : w.cell? ⟨g, i, none⟩ = some (.int .u8 ((l.getD i 0).toNat : Int)) ∧ w.frozen? ⟨g, i, none⟩ = false := by
  obtain ⟨b, off, he, -, hc⟩ := h.by.at i hi
  simp at he
  obtain ⟨rfl, rfl⟩ := he
  refine ⟨by have := hc i hi; rwa [Nat.zero_add] at this, ?_⟩
  rcases h.2 with ⟨he, _⟩ | ⟨g', cap', cur, he, hb, hh, hn, hm, hs, ht⟩
  · simp at he
  · simp only [Value.slice.injEq, Option.some.injEq, Addr.mk.injEq, and_true] at he
    obtain ⟨rfl, -⟩ := he
    simp [World.frozen?, hh]
theorem OB.shape {w : World} {base : Nat} {v : Value} {l : List UInt8} (h : OB w base v l) (h0 : 0 < l.length) : ∃ g cap, v = .slice (some ⟨g, 0, none⟩) l.length cap ∧ base ≤ g ∧ l.length ≤ cap ∧ (cap : Int) ≤ 9223372036854775807 := by
  rcases h.2 with ⟨rfl, h3⟩ | ⟨g, cap, cur, rfl, hb, hh, hn, hm, _⟩
  · omega
  · exact ⟨g, cap, rfl, hb, hn, by unfold maxLen at hm; omega⟩
/-- What a row of the call's own holds, read at a place. -/
theorem OB.news {w : World} {base g n cap : Nat} {l : List UInt8} (h : OB w base (.slice (some ⟨g, 0, none⟩) n cap) l) : ∀ j u, (bv l)[j]? = some u → w.cell? ((⟨g, 0, none⟩ : Addr).add j) = some u := by
  intro j u hu
  have hj : j < l.length := by
    have := (List.getElem?_eq_some_iff.1 hu).1
    rwa [bv_len] at this
  obtain ⟨b', off', he, -, hc⟩ := h.by.at j hj
  simp at he
  obtain ⟨rfl, rfl⟩ := he
  rw [show (⟨g, 0, none⟩ : Addr).add j = ⟨g, 0 + j, none⟩ by unfold Addr.add; split <;> simp_all, hc j hj]
  simp [bv, hj] at hu
  simp [List.getD, hj, hu]
theorem add_at (g j : Nat) : (⟨g, 0, none⟩ : Addr).add j = ⟨g, j, none⟩ := by unfold Addr.add; split <;> simp_all
theorem mark_cells (w : World) (cs : List Value) (t : TypeId) (fr : Nat × Nat) (j : Nat) (u : Value) (hj : cs[j]? = some u) : (w.alloc (.cells cs.toArray t fr)).cell? ((⟨w.heap.size, 0, none⟩ : Addr).add j) = some u := by
  rw [add_at, World.cell?_alloc_mark]
  simpa using hj
theorem far_cells {w w' : World} {row : Option Nat} {g : Nat} {l : List Value} (hg : w.grownBy w' row) (hlt : g < w.heap.size) (hne : row ≠ some g) (h : ∀ j u, l[j]? = some u → w.cell? ((⟨g, 0, none⟩ : Addr).add j) = some u) : ∀ b, some (⟨g, 0, none⟩ : Addr) = some b → ∀ j u, l[j]? = some u → w'.cell? (b.add j) = some u := by
  intro b hb j u hj
  injection hb with hb
  subst hb
  have := h j u hj
  rw [add_at] at this ⊢
  rw [far hg ⟨g, j, none⟩ hlt hne.symm]
  exact this
theorem step_append_str {P : Program} {ops : Array Oper} {o : Oper} {a : Act} {w : World} {K : Act → World → Prop} {Q : Exit → Act → World → Prop} {E : Prop}
    (hg : o.guard = none) (sl x : Operand) (t u : TypeId) (hop : o.op = Op.call { callee := Callee.builtin Builtin.append, args := #[sl, x], argTypes := #[t, u] })
    (base : Nat) (e : TypeId) (i : TypeInfo) (h1 : P.underlying t = some (.slice e)) (hu : P.underlying u = some .string) (h2 : P.info? e = some i) (h3 : i.zero = some (.int .u8 0)) (h4 : i.size = 1) (h5 : i.bytes = 1)
    (v : Value) (n : Nat) (xs : List Value) (hs : a.eval sl = v) (hown : w.ownsRow base e 1 v n xs) (s : ByteArray) (hx : a.eval x = .string s)
    (b1 : n + s.size ≤ maxLen) (b2 : n + s.size ≤ 140737488355328) (hb : base ≤ w.heap.size)
    (hK : ∀ v' w', w'.ownsRow base e 1 v' (n + s.size) (xs ++ Lib.strCells s) → w.grownBy w' v.ownBlock → K (a.put o.dst v') w') :
    if Region.wanted o (yielded ops a.tmps) = true then Oper.wp P o a w K Q else E := by
  have hw : Region.wanted o (yielded ops a.tmps) = true := by simp [Region.wanted, hg]
  rw [if_pos hw]
  obtain ⟨v', w', hrun, r1, r2, _⟩ := Lib.run_append_own_string (P := P) w base t u o.type e i h1 hu h2 h3 h4 h5 v n xs hown s b1 b2 hb
  unfold Oper.wp
  simp [execOp, hop, resolve, invoke, builtin, hs, hx, hrun, Result.andThen]
  exact hK v' w' r1 r2
theorem step_append_own {P : Program} {ops : Array Oper} {o : Oper} {a : Act} {w : World} {K : Act → World → Prop} {Q : Exit → Act → World → Prop} {E : Prop}
    (hg : o.guard = none) (s x : Operand) (t : TypeId) (hop : o.op = Op.call { callee := Callee.builtin Builtin.append, args := #[s, x], argTypes := #[t, t] })
    (base : Nat) (e : TypeId) (i : TypeInfo) (z : Value) (size bytes : Nat) (h1 : P.underlying t = some (.slice e)) (h2 : P.info? e = some i) (h3 : i.zero = some z) (h4 : i.size = size) (h5 : i.bytes = bytes) (h6 : z.cells.size = size) (h7 : 0 < size)
    (v : Value) (n : Nat) (xs : List Value) (hs : a.eval s = v) (hown : w.ownsRow base e size v n xs)
    (ad : Addr) (m c : Nat) (news : List Value) (hx : a.eval x = .slice (some ad) m c) (hn : news.length = m * size) (hc : ∀ j u, news[j]? = some u → w.cell? (ad.add j) = some u) (h1c : ∀ u ∈ news, u.oneCell' = true)
    (b1 : n + m ≤ maxLen) (b2 : (n + m) * bytes ≤ 140737488355328) (hb : base ≤ w.heap.size)
    (hK : ∀ v' w', w'.ownsRow base e size v' (n + m) (xs ++ news) → w.grownBy w' v.ownBlock → K (a.put o.dst v') w') :
    if Region.wanted o (yielded ops a.tmps) = true then Oper.wp P o a w K Q else E := by
  have hw : Region.wanted o (yielded ops a.tmps) = true := by simp [Region.wanted, hg]
  rw [if_pos hw]
  obtain ⟨v', w', hrun, r1, r2, _⟩ := run_append_own (P := P) w base t o.type e i z size bytes h1 h2 h3 h4 h5 h6 h7 v n xs hown ad m c news hn hc h1c b1 b2 hb
  unfold Oper.wp
  simp [execOp, hop, resolve, invoke, builtin, hs, hx, hrun, Result.andThen]
  exact hK v' w' r1 r2
end Go.Proofs.YtfjibcldghnjcaaDoor
