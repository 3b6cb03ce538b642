/-
  Bytes, texts, chunks and sets of names as the walks want them.
-/
import Derived.Test.YtifofcodmgglkaaProg
import Derived.Test.YtifofcodmgglkaaIffMath
import Derived.WalkKit
import Derived.WalkSpells
import Derived.WalkLawsBesides
import Derived.Lib.AppendStr
import Derived.Laws.IdiomStrings
import Derived.Maps.OwnSet
import Derived.BigQuiet
import Derived.Deep.LoopGhost
import Derived.Deep.Cut
namespace Go.Proofs.Ytifofcodmgglkaa
open Go.RowKit Go.Maps
set_option linter.unusedVariables false
set_option linter.unusedSimpArgs false

/-- Bytes as values. -/
def bv (l : List UInt8) : List Value := l.map fun b => Value.int .u8 (b.toNat : Int)
theorem bv_len (l : List UInt8) : (bv l).length = l.length := by simp [bv]
theorem bv_app (a b : List UInt8) : bv (a ++ b) = bv a ++ bv b := by simp [bv]
theorem bv_str (s : ByteArray) : Lib.strCells s = bv s.data.toList := rfl

/-- The slice v has in w the bytes l. -/
def By (w : World) (v : Value) (l : List UInt8) : Prop :=
  ∃ a cap, v = .slice a l.length cap ∧ l.length ≤ cap ∧ cap ≤ 9223372036854775807 ∧ (a = none → cap = 0) ∧
    (0 < l.length → ∃ b off, a = some ⟨b, off, none⟩ ∧ b < w.heap.size ∧ ∀ i, i < l.length → w.cell? ⟨b, off + i, none⟩ = some (.int .u8 ((l.getD i 0).toNat : Int)))

theorem By.nil (w : World) : By w (.slice none 0 0) [] := ⟨none, 0, rfl, Nat.le_refl _, by decide, fun _ => rfl, fun h => absurd h (by decide)⟩
theorem By.shape {w : World} {v : Value} {l : List UInt8} (h : By w v l) : ∃ a cap, v = .slice a l.length cap ∧ l.length ≤ cap ∧ (cap : Int) ≤ 9223372036854775807 ∧ (a = none → cap = 0) := by
  obtain ⟨a, cap, rfl, h1, h2, h3, _⟩ := h
  exact ⟨a, cap, rfl, h1, by omega, h3⟩
theorem By.under {w w' : World} {v : Value} {l : List UInt8} (h : By w v l) (hb : Below w.heap.size w w') : By w' v l := by
  obtain ⟨a, cap, rfl, hl, hc, hn, hp⟩ := h
  refine ⟨a, cap, rfl, hl, hc, hn, fun h0 => ?_⟩
  obtain ⟨b, off, rfl, hlt, hcell⟩ := hp h0
  refine ⟨b, off, rfl, Nat.lt_of_lt_of_le hlt hb.size, fun i hi => ?_⟩
  rw [hb.cell (p := ⟨b, off + i, none⟩) hlt]
  exact hcell i hi
theorem By.at {w : World} {a : Option Addr} {n cap : Nat} {l : List UInt8} (h : By w (.slice a n cap) l) (k : Nat) (hk : k < l.length) :
    ∃ b off, a = some ⟨b, off, none⟩ ∧ b < w.heap.size ∧ ∀ i, i < l.length → w.cell? ⟨b, off + i, none⟩ = some (.int .u8 ((l.getD i 0).toNat : Int)) := by
  obtain ⟨a', cap', he, _, _, _, hp⟩ := h
  injection he with e1 e2 e3
  subst e1; subst e2; subst e3
  exact hp (by omega)
theorem getD_take (l : List UInt8) (m i : Nat) (h : i < m) : (l.take m).getD i 0 = l.getD i 0 := by simp [List.getD, List.getElem?_take, h]
theorem getD_drop (l : List UInt8) (q i : Nat) : (l.drop q).getD i 0 = l.getD (q + i) 0 := by simp [List.getD]
/-- 'b[:m]', with whatever room. -/
theorem By.take {w : World} {a : Option Addr} {n cap : Nat} {l : List UInt8} (h : By w (.slice a n cap) l) (m c : Nat) (hm : m ≤ l.length) (hc : m ≤ c) (hc2 : c ≤ cap) : By w (.slice a m c) (l.take m) := by
  obtain ⟨a', cap', he, hl, hx, hn, hp⟩ := h
  injection he with e1 e2 e3
  subst e1; subst e2; subst e3
  have hlen : (l.take m).length = m := by simp; omega
  refine ⟨a, c, by rw [hlen], by rw [hlen]; exact hc, by omega, fun e => by have := hn e; omega, fun h0 => ?_⟩
  obtain ⟨b, off, rfl, hlt, hcell⟩ := hp (by omega)
  exact ⟨b, off, rfl, hlt, fun i hi => by rw [getD_take _ _ _ (by omega)]; exact hcell i (by omega)⟩
/-- 'b[q:]' -/
theorem By.drop {w : World} {b off n cap : Nat} {l : List UInt8} (h : By w (.slice (some ⟨b, off, none⟩) n cap) l) (q : Nat) (hq : q ≤ l.length) : By w (.slice (some ⟨b, off + q, none⟩) (l.length - q) (cap - q)) (l.drop q) := by
  obtain ⟨a', cap', he, hl, hx, hn, hp⟩ := h
  injection he with e1 e2 e3
  subst e1; subst e2; subst e3
  have hlen : (l.drop q).length = l.length - q := by simp
  refine ⟨_, cap - q, by rw [hlen], by rw [hlen]; omega, by omega, fun e => (by cases e), fun h0 => ?_⟩
  obtain ⟨b', off', he, hlt, hcell⟩ := hp (by omega)
  simp at he
  obtain ⟨rfl, rfl⟩ := he
  refine ⟨b, off + q, rfl, hlt, fun i hi => ?_⟩
  rw [getD_drop, show off + q + i = off + (q + i) by omega]
  exact hcell _ (by omega)

/-- string(b). -/
theorem By.text {w : World} {a : Option Addr} {n cap : Nat} {l : List UInt8} (h : By w (.slice a n cap) l) : (convert 22 9 (.slice a n cap)).run Try.prog w = .ok (.string ⟨l.toArray⟩) w := by
  obtain ⟨a', cap', he, hl, hx, hn, hp⟩ := h
  injection he with e1 e2 e3
  subst e1; subst e2; subst e3
  by_cases h0 : 0 < l.length
  · obtain ⟨b, off, rfl, hlt, hcell⟩ := hp h0
    refine run_convert_bytes_back w _ _ 5 _ cap l Try.underlying22 Try.underlying5 Try.underlying9 (fun j hj => ?_)
    have h1 := hcell j hj
    rw [show (⟨b, off, none⟩ : Addr).add j = ⟨b, off + j, none⟩ by unfold Addr.add; split <;> simp_all, h1]
    simp [List.getD, hj]
  · obtain rfl : l = [] := List.eq_nil_of_length_eq_zero (by omega)
    rw [run_convert_bytes_string w _ _ 5 _ _ _ Try.underlying22 Try.underlying5 Try.underlying9]
    cases a with
    | none => rfl
    | some ad =>
      have hl := run_loadCells_list (P := Try.prog) w ad ([] : List Value) (fun j v hj => by simp at hj)
      exact run_bytesToString w ad 0 cap [] hl

/-- A row of bytes of the call's own. -/
def OB (w : World) (base : Nat) (v : Value) (l : List UInt8) : Prop := w.ownsRow base 5 1 v l.length (bv l)
theorem OB.by {w : World} {base : Nat} {v : Value} {l : List UInt8} (h : OB w base v l) : By w v l := by
  obtain ⟨h1, h2⟩ := h
  rcases h2 with ⟨rfl, h3⟩ | ⟨g, cap, cur, rfl, hb, hh, hn, hm, hs, ht⟩
  · obtain rfl : l = [] := List.eq_nil_of_length_eq_zero h3
    exact By.nil w
  · refine ⟨_, cap, rfl, hn, by simpa [maxLen] using hm, fun e => (by cases e), fun h0 => ⟨g, 0, rfl, (Array.getElem?_eq_some_iff.1 hh).1, fun i hi => ?_⟩⟩
    rw [Nat.zero_add, cell_of_row w g i _ _ _ hh]
    have e := congrArg (fun l : List Value => l[i]?) ht
    simp only [Nat.mul_one, List.getElem?_take_of_lt hi, Array.getElem?_toList] at e
    rw [e]
    simp [List.getD, hi, bv]
theorem OB.nil (w : World) (base : Nat) : OB w base (.slice none 0 0) [] := World.ownsRow_nil _ _ _ _
theorem OB.under {w w' : World} {base : Nat} {v : Value} {l : List UInt8} (h : OB w base v l) (hb : Below w.heap.size w w') : OB w' base v l := by
  obtain ⟨h1, h2⟩ := h
  refine ⟨h1, ?_⟩
  rcases h2 with h3 | ⟨g, cap, cur, rfl, hb1, hh, h4⟩
  · exact .inl h3
  · exact .inr ⟨g, cap, cur, rfl, hb1, by rw [hb.block g (Array.getElem?_eq_some_iff.1 hh).1]; exact hh, h4⟩
theorem OB.more {w : World} {base : Nat} {v : Value} {l m : List UInt8} {n : Nat} (h : w.ownsRow base 5 1 v n (bv l ++ bv m)) (hn : n = l.length + m.length) : OB w base v (l ++ m) := by
  unfold OB
  rw [bv_app]
  have : (l ++ m).length = n := by simp [hn]
  rw [this]
  exact h

theorem Try.infoU8 : (Try.prog.info? 5).map (fun i => (i.zero, i.size, i.bytes)) = some (some (.int .u8 0), 1, 1) := by kernel_rfl
theorem Try.infoCk : (Try.prog.info? 39).map (fun i => (i.zero, i.size, i.bytes)) = some (some (.agg #[.string ⟨#[]⟩, .string ⟨#[]⟩]), 2, 32) := by kernel_rfl

/-- Chunks as values. -/
def cv : List Ck → List Value
  | [] => []
  | c :: r => .string c.1 :: .string c.2 :: cv r
theorem cv_app : ∀ (a b : List Ck), cv (a ++ b) = cv a ++ cv b
  | [], b => rfl
  | c :: a, b => by simp [cv, cv_app a b]
theorem cv_len : ∀ l : List Ck, (cv l).length = l.length * 2
  | [] => rfl
  | c :: r => by simp [cv, cv_len r]; omega
theorem cv_at : ∀ (l : List Ck) (i : Nat) (h : i < l.length), (cv l)[2 * i]? = some (.string l[i].1) ∧ (cv l)[2 * i + 1]? = some (.string l[i].2)
  | c :: r, 0, _ => ⟨rfl, rfl⟩
  | c :: r, i + 1, h => by
    have := cv_at r i (by simpa using h)
    simp only [List.getElem_cons_succ, show 2 * (i + 1) = 2 * i + 1 + 1 by omega, cv, List.getElem?_cons_succ]
    exact this

/-- The slice v has in w the chunks cs. -/
def Ch (w : World) (v : Value) (cs : List Ck) : Prop :=
  (∀ c ∈ cs, (c.1.size : Int) ≤ 140737488355328 ∧ (c.2.size : Int) ≤ 140737488355328) ∧ ∃ a cap, v = .slice a cs.length cap ∧ cs.length ≤ cap ∧ cap ≤ 9223372036854775807 ∧ (a = none → cap = 0) ∧
    (0 < cs.length → ∃ b off, a = some ⟨b, off, none⟩ ∧ b < w.heap.size ∧ ∀ i (h : i < cs.length), w.cell? ⟨b, off + i * 2, none⟩ = some (.string cs[i].1) ∧ w.cell? ⟨b, off + i * 2 + 1, none⟩ = some (.string cs[i].2))
theorem Ch.nil (w : World) : Ch w (.slice none 0 0) [] := ⟨fun c h => by simp at h, none, 0, rfl, Nat.le_refl _, by decide, fun _ => rfl, fun h => absurd h (by decide)⟩
theorem Ch.shape {w : World} {v : Value} {l : List Ck} (h : Ch w v l) : ∃ a cap, v = .slice a l.length cap ∧ l.length ≤ cap ∧ (cap : Int) ≤ 9223372036854775807 ∧ (a = none → cap = 0) := by
  obtain ⟨_, a, cap, rfl, h1, h2, h3, _⟩ := h
  exact ⟨a, cap, rfl, h1, by omega, h3⟩
theorem Ch.under {w w' : World} {v : Value} {l : List Ck} (h : Ch w v l) (hb : Below w.heap.size w w') : Ch w' v l := by
  obtain ⟨hs, a, cap, rfl, hl, hc, hn, hp⟩ := h
  refine ⟨hs, a, cap, rfl, hl, hc, hn, fun h0 => ?_⟩
  obtain ⟨b, off, rfl, hlt, hcell⟩ := hp h0
  refine ⟨b, off, rfl, Nat.lt_of_lt_of_le hlt hb.size, fun i hi => ⟨?_, ?_⟩⟩
  · rw [hb.cell (p := ⟨b, off + i * 2, none⟩) hlt]
    exact (hcell i hi).1
  · rw [hb.cell (p := ⟨b, off + i * 2 + 1, none⟩) hlt]
    exact (hcell i hi).2
theorem Ch.at {w : World} {a : Option Addr} {n cap : Nat} {l : List Ck} (h : Ch w (.slice a n cap) l) (k : Nat) (hk : k < l.length) :
    ∃ b off, a = some ⟨b, off, none⟩ ∧ b < w.heap.size ∧ w.cell? ⟨b, off + k * 2, none⟩ = some (.string l[k].1) ∧ w.cell? ⟨b, off + k * 2 + 1, none⟩ = some (.string l[k].2) ∧ (l[k].1.size : Int) ≤ 140737488355328 ∧ (l[k].2.size : Int) ≤ 140737488355328 := by
  obtain ⟨hs, a', cap', he, _, _, _, hp⟩ := h
  injection he with e1 e2 e3
  subst e1; subst e2; subst e3
  obtain ⟨b, off, rfl, hlt, hc⟩ := hp (by omega)
  exact ⟨b, off, rfl, hlt, (hc k hk).1, (hc k hk).2, hs _ (List.getElem_mem hk)⟩
theorem Ch.take {w : World} {a : Option Addr} {n cap : Nat} {l : List Ck} (h : Ch w (.slice a n cap) l) (m : Nat) (hm : m ≤ l.length) : Ch w (.slice a m cap) (l.take m) := by
  obtain ⟨hs, a', cap', he, hl, hx, hn, hp⟩ := h
  injection he with e1 e2 e3
  subst e1; subst e2; subst e3
  have hlen : (l.take m).length = m := by simp; omega
  refine ⟨fun c hc => hs c (List.mem_of_mem_take hc), a, cap, by rw [hlen], by rw [hlen]; omega, by omega, hn, fun h0 => ?_⟩
  obtain ⟨b, off, rfl, hlt, hcell⟩ := hp (by omega)
  refine ⟨b, off, rfl, hlt, fun i hi => ?_⟩
  rw [List.getElem_take]
  exact hcell i (by omega)

/-- A row of chunks of the call's own. -/
def OC (w : World) (base : Nat) (v : Value) (l : List Ck) : Prop := w.ownsRow base 39 2 v l.length (cv l)
theorem OC.nil (w : World) (base : Nat) : OC w base (.slice none 0 0) [] := World.ownsRow_nil _ _ _ _
theorem OC.under {w w' : World} {base : Nat} {v : Value} {l : List Ck} (h : OC w base v l) (hb : Below w.heap.size w w') : OC w' base v l := by
  obtain ⟨h1, h2⟩ := h
  refine ⟨h1, ?_⟩
  rcases h2 with h3 | ⟨g, cap, cur, rfl, hb1, hh, h4⟩
  · exact .inl h3
  · exact .inr ⟨g, cap, cur, rfl, hb1, by rw [hb.block g (Array.getElem?_eq_some_iff.1 hh).1]; exact hh, h4⟩
theorem OC.more {w : World} {base : Nat} {v : Value} {l : List Ck} {c : Ck} (h : w.ownsRow base 39 2 v (l.length + 1) (cv l ++ [.string c.1, .string c.2])) : OC w base v (l ++ [c]) := by
  unfold OC
  rw [cv_app]
  have : (l ++ [c]).length = l.length + 1 := by simp
  rw [this]
  exact h
theorem OC.ch {w : World} {base : Nat} {v : Value} {l : List Ck} (h : OC w base v l) (hs : ∀ c ∈ l, (c.1.size : Int) ≤ 140737488355328 ∧ (c.2.size : Int) ≤ 140737488355328) : Ch w v l := by
  obtain ⟨h1, h2⟩ := h
  rcases h2 with ⟨rfl, h3⟩ | ⟨g, cap, cur, rfl, hb, hh, hn, hm, hz, ht⟩
  · obtain rfl : l = [] := List.eq_nil_of_length_eq_zero h3
    exact Ch.nil w
  · refine ⟨hs, _, cap, rfl, hn, by simpa [maxLen] using hm, fun e => (by cases e), fun h0 => ⟨g, 0, rfl, (Array.getElem?_eq_some_iff.1 hh).1, fun i hi => ?_⟩⟩
    have hc := cv_at l i hi
    have e0 := congrArg (fun l : List Value => l[2 * i]?) ht
    have e1 := congrArg (fun l : List Value => l[2 * i + 1]?) ht
    simp only [List.getElem?_take_of_lt (show 2 * i < l.length * 2 by omega), List.getElem?_take_of_lt (show 2 * i + 1 < l.length * 2 by omega), Array.getElem?_toList, hc.1, hc.2] at e0 e1
    rw [Nat.zero_add, cell_of_row w g _ _ _ _ hh, cell_of_row w g _ _ _ _ hh, Nat.mul_comm i 2]
    exact ⟨e0, e1⟩

theorem law9 : Keyed Try.prog 9 := string_keyed Try.underlying9
theorem zeroUnit (w : World) : (zeroValue 61).run Try.prog w = .ok (.agg #[]) w := by kernel_rfl

/-- Block b is a set that holds just the names of these chunks. -/
def Nms (w : World) (b n : Nat) (acc : List Ck) : Prop :=
  ∃ D : DataW Unit, w.ownsMap Try.prog 9 (unitElem (H := Unit)) b n D ∧ ∀ s : ByteArray, Maps.has D (.string s.data.toList) = hasN acc s
theorem Nms.made (w : World) : Nms (w.alloc (.map #[] 0)) w.heap.size 0 [] := ⟨_, World.ownsMap_made _ _ _ _, fun s => rfl⟩
theorem Nms.under {w w' : World} {b n : Nat} {acc : List Ck} (h : Nms w b n acc) (hb : Below w.heap.size w w') : Nms w' b n acc := by
  obtain ⟨D, h1, h2⟩ := h
  have hlt := h1.lt
  obtain ⟨es, clock, hh, r⟩ := h1
  exact ⟨D, ⟨es, clock, by rw [hb.block b hlt]; exact hh, r⟩, h2⟩
theorem Nms.grown {w w' : World} {b n : Nat} {acc : List Ck} {row : Option Nat} (h : Nms w b n acc) (hg : w.grownBy w' row) (hne : some b ≠ row) : Nms w' b n acc := by
  obtain ⟨D, h1, h2⟩ := h
  exact ⟨D, h1.kept hg hne, h2⟩
theorem Nms.lt {w : World} {b n : Nat} {acc : List Ck} (h : Nms w b n acc) : b < w.heap.size := by
  obtain ⟨D, h1, h2⟩ := h
  exact h1.lt
theorem has_more (acc : List Ck) (c : Ck) (s : ByteArray) : hasN (acc ++ [c]) s = (hasN acc s || (c.1.data.toList == s.data.toList)) := by simp [hasN]
end Go.Proofs.Ytifofcodmgglkaa
