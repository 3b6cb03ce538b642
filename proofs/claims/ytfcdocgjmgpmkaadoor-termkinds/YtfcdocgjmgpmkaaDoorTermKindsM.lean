
/-
  The nine terms of the law TermKinds, and their order.
-/
import Derived.Test.YtfcdocgjmgpmkaaDoorTermCmpS
import Derived.Test.YtfcdocgjmgpmkaaDoorTermAwake
namespace Go.Proofs.YtfcdocgjmgpmkaaDoor
open Go.RowKit
set_option linter.unusedVariables false
set_option linter.unusedSimpArgs false

def kT (n : Bool) (zs : List Int) (s : ByteArray) : Nat → Tm
  | 0 => .mk 1 n zs ⟨#[]⟩ 0 []
  | 1 => .mk 2 false [] s 0 []
  | 2 => .mk 7 false [] ⟨#[]⟩ 3 []
  | 3 => .mk 5 false [] ⟨#[]⟩ 0 []
  | 4 => tmNil
  | 5 => .mk 4 false [] ⟨#[]⟩ 0 [tmNil, tmNil]
  | 6 => .mk 6 false [] s 0 []
  | 7 => .mk 8 false [] s 0 []
  | _ => .mk 9 false [] ⟨#[]⟩ 7 []
def nS : Value := .slice none 0 0
def kV (n : Bool) (sl : Value) (s : ByteArray) (sk : Value) : Nat → Value
  | 0 => tmV 1 n sl ⟨#[]⟩ 0 nS
  | 1 => tmV 2 false nS s 0 nS
  | 2 => tmV 7 false nS ⟨#[]⟩ 3 nS
  | 3 => tmV 5 false nS ⟨#[]⟩ 0 nS
  | 4 => tmV 3 false nS ⟨#[]⟩ 0 nS
  | 5 => tmV 4 false nS ⟨#[]⟩ 0 sk
  | 6 => tmV 6 false nS s 0 nS
  | 7 => tmV 8 false nS s 0 nS
  | _ => tmV 9 false nS ⟨#[]⟩ 7 nS
theorem nine {i : Nat} (h : i < 9) : i = 0 ∨ i = 1 ∨ i = 2 ∨ i = 3 ∨ i = 4 ∨ i = 5 ∨ i = 6 ∨ i = 7 ∨ i = 8 := by omega
theorem kT_rank (n : Bool) (zs : List Int) (s : ByteArray) {i : Nat} (h : i < 9) : rankS (kT n zs s i).kind = (i : Int) := by
  rcases nine h with rfl | rfl | rfl | rfl | rfl | rfl | rfl | rfl | rfl <;> rfl
theorem kT_cons2 (n : Bool) (zs : List Int) (s : ByteArray) {i : Nat} (h : i < 9) : (kT n zs s i).cons2 := by
  rcases nine h with rfl | rfl | rfl | rfl | rfl | rfl | rfl | rfl | rfl <;> simp [kT, Tm.cons2_mk, cons2L, tmNil]
theorem kT_nodes (n : Bool) (zs : List Int) (s : ByteArray) {i : Nat} (h : i < 9) : (kT n zs s i).nodes ≤ 1000000 := by
  rcases nine h with rfl | rfl | rfl | rfl | rfl | rfl | rfl | rfl | rfl <;> simp [kT, Tm.nodes_mk, nodesL, tmNil]
theorem kT_cmp (n : Bool) (zs : List Int) (s : ByteArray) {i k : Nat} (h : i < 9) (hk : k < 9) : (kT n zs s i).cmp (kT n zs s k) = sg (i : Int) (k : Int) := by
  by_cases e : i = k
  · subst e
    rw [cmp_self, sg_self]
  · have hs : sg (rankS (kT n zs s i).kind) (rankS (kT n zs s k).kind) ≠ 0 := by
      rw [kT_rank n zs s h, kT_rank n zs s hk]
      intro h0
      exact e (by have := sg_zero h0; omega)
    have h1 : (kT n zs s i).cmp1 (kT n zs s k) = sg (i : Int) (k : Int) := by
      unfold Tm.cmp1 compareR
      rw [if_pos hs, kT_rank n zs s h, kT_rank n zs s hk]
    rw [cmp_differ, h1]
    rw [h1, ← kT_rank n zs s h, ← kT_rank n zs s hk]
    exact hs
theorem kT_same (n : Bool) (zs : List Int) (s : ByteArray) {i k : Nat} (h : i < 9) (hk : k < 9) : (kT n zs s i).same (kT n zs s k) = ((i : Int) == (k : Int)) := by
  by_cases e : i = k
  · subst e
    rw [same_self]
    simp
  · have hd : (kT n zs s i).kind ≠ (kT n zs s k).kind := fun h0 => by
      have := kT_rank n zs s h
      rw [h0, kT_rank n zs s hk] at this
      omega
    rw [same_differ (by unfold Tm.alike; simp [hd])]
    have : ((i : Int) == (k : Int)) = false := by simp; omega
    rw [this]
theorem kT_is {W : World} {n : Bool} {zs : List Int} {s : ByteArray} {sl sk : Value} (hs : (s.size : Int) ≤ 140737488355328) (hsl : Sl W sl zs) (hsk : Ts W sk [tmNil, tmNil]) {i : Nat} (h : i < 9) : IsT W (kT n zs s i) (kV n sl s sk i) := by
  rcases nine h with rfl | rfl | rfl | rfl | rfl | rfl | rfl | rfl | rfl
  · exact IsT.shut (by omega) (by omega) (by decide) hsl (Ts.nil W)
  · exact IsT.shut (by omega) (by omega) hs (Sl.nil W) (Ts.nil W)
  · exact IsT.shut (by omega) (by omega) (by decide) (Sl.nil W) (Ts.nil W)
  · exact IsT.shut (by omega) (by omega) (by decide) (Sl.nil W) (Ts.nil W)
  · exact IsT.shut (by omega) (by omega) (by decide) (Sl.nil W) (Ts.nil W)
  · exact IsT.shut (by omega) (by omega) (by decide) (Sl.nil W) hsk
  · exact IsT.shut (by omega) (by omega) hs (Sl.nil W) (Ts.nil W)
  · exact IsT.shut (by omega) (by omega) hs (Sl.nil W) (Ts.nil W)
  · exact IsT.shut (by omega) (by omega) (by decide) (Sl.nil W) (Ts.nil W)
/-- The array's cells. -/
def kC (n : Bool) (sl : Value) (s : ByteArray) (sk : Value) : Array Value :=
  #[.int .i64 1, .bool n, sl, .string ⟨#[]⟩, .int .i64 0, .slice none 0 0, .int .i64 2, .bool false, .slice none 0 0, .string s, .int .i64 0, .slice none 0 0, .int .i64 7, .bool false, .slice none 0 0, .string ⟨#[]⟩, .int .i64 3, .slice none 0 0,
    .int .i64 5, .bool false, .slice none 0 0, .string ⟨#[]⟩, .int .i64 0, .slice none 0 0, .int .i64 3, .bool false, .slice none 0 0, .string ⟨#[]⟩, .int .i64 0, .slice none 0 0, .int .i64 4, .bool false, .slice none 0 0, .string ⟨#[]⟩, .int .i64 0, sk,
    .int .i64 6, .bool false, .slice none 0 0, .string s, .int .i64 0, .slice none 0 0, .int .i64 8, .bool false, .slice none 0 0, .string s, .int .i64 0, .slice none 0 0, .int .i64 9, .bool false, .slice none 0 0, .string ⟨#[]⟩, .int .i64 7, .slice none 0 0]
/-- The array lies in block g. -/
def KArr (W : World) (g : Nat) (n : Bool) (sl : Value) (s : ByteArray) (sk : Value) : Prop := W.heap[g]? = some (.cells (kC n sl s sk) 41 (0, 0))
theorem KArr.lt {W : World} {g : Nat} {n : Bool} {sl : Value} {s : ByteArray} {sk : Value} (h : KArr W g n sl s sk) : g < W.heap.size := (Array.getElem?_eq_some_iff.1 h).1
theorem KArr.under {W W' : World} {g : Nat} {n : Bool} {sl : Value} {s : ByteArray} {sk : Value} (h : KArr W g n sl s sk) (hb : Below W.heap.size W W') : KArr W' g n sl s sk := by
  have := hb.block g h.lt
  unfold KArr at h ⊢
  rw [this]; exact h
theorem KArr.at {W : World} {g : Nat} {n : Bool} {sl : Value} {s : ByteArray} {sk : Value} (h : KArr W g n sl s sk) {i : Nat} (hi : i < 9) : At6 W g (i * 6) (kV n sl s sk i) := by
  unfold KArr at h
  have key : ∀ j, W.cell? ⟨g, j, none⟩ = (kC n sl s sk)[j]? := fun j => by simp [World.cell?, h]
  rcases nine hi with rfl | rfl | rfl | rfl | rfl | rfl | rfl | rfl | rfl
  all_goals exact ⟨_, _, _, _, _, _, rfl, (key _).trans rfl, (key _).trans rfl, (key _).trans rfl, (key _).trans rfl, (key _).trans rfl, (key _).trans rfl⟩
end Go.Proofs.YtfcdocgjmgpmkaaDoor
