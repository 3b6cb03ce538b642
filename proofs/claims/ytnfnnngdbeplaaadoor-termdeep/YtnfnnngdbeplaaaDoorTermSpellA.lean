
/-
  term.mark, ends; the row of terms that wait for their text.
-/
import Derived.Test.YtnfnnngdbeplaaaDoorTermBack
import Derived.Test.YtnfnnngdbeplaaaDoorTermTotal
namespace Go.Proofs.YtnfnnngdbeplaaaDoor
open Go.RowKit Go.Shelf
set_option linter.unusedVariables false
set_option linter.unusedSimpArgs false

theorem results_bt1 {fn : Func} {q : Tmp} (h : fn.results = #[.cell q 27]) (tmps : Array Value) (w : World) (g : Nat) (k : Int) (neg : Bool) (sl : Value) (S : ByteArray) (N : Int) (sk : Value) (hq : tmps.getD q undef = .pointer (some ⟨g, 0, none⟩)) (hb : Bt w g k neg sl S N sk) :
    (results fn tmps).run Tryd.prog w = .ok (tmV k neg sl S N sk) w := by
  have hl := hb.load
  simp only [Array.getD_eq_getD_getElem?] at hq
  simp only [results, h]
  simp [hq, asAddr, hl, tmV]

/-- A mark: an atom, whatever its name is. -/
def tmMark (s : ByteArray) : Tm := .mk 2 false [] s 0 []
def mkV (s : ByteArray) : Value := tmV 2 false (.slice none 0 0) s 0 (.slice none 0 0)
theorem mark_is (s : ByteArray) (w : World) (hs : (s.size : Int) ≤ 140737488355328) : IsT w (tmMark s) (mkV s) := IsT.shut (by omega) (by omega) hs (Sl.nil w) (Ts.nil w)

set_option maxHeartbeats 1000000 in
theorem mark_any (s : ByteArray) (w : World) : Calls Tryd.prog 57 #[.string s] w fun e w' => e = .returned (mkV s) ∧ Below w.heap.size w w' := by
  go_enter Tryd.func57, Tryd.ntmps57
  go_wp2_with fail
  refine bodyPost_ret (results_bt1 rfl _ _ w.heap.size 2 false (.slice none 0 0) s 0 (.slice none 0 0) rfl (Bt.new w 2 false (.slice none 0 0) s 0 (.slice none 0 0) ⟨_, _, _, rfl⟩ ⟨_, _, _, rfl⟩)) rfl ⟨rfl, (Below.refl _ _).alloc (Nat.le_refl _) _⟩

set_option maxHeartbeats 1000000 in
theorem ends_two (t : Tm) (v : Value) (w : World) (h : IsT w t v) (h2 : 2 ≤ t.kids.length) : Calls Tryd.prog 39 #[v] w fun e w' => (∃ sk, e = .returned sk ∧ Ts w sk (t.kids.take 2)) ∧ Below w.heap.size w w' := by
  obtain ⟨sl, sk, rfl, hl, hk, -, -, -⟩ := h.open
  obtain ⟨pl, cl, rfl⟩ := hl.shape
  obtain ⟨pk, ck, rfl, hc1, hc2, -⟩ := hk.shape
  have h2' : (2 : Int) ≤ (t.kids.length : Int) := by omega
  have hc3 : (2 : Int) ≤ (ck : Int) := by omega
  have HT : Hid (Ts w (.slice pk 2 ck) (t.kids.take 2)) := hk.take 2 h2
  simp only [tmV] at *
  go_enter Tryd.func39, Tryd.ntmps39
  go_wp2_with fail
  go_ret
  exact ⟨⟨_, rfl, HT.out⟩, (Below.refl _ _).alloc (Nat.le_refl _) _⟩

def cells6 : Value → List Value
  | .agg a => a.toList
  | _ => []
/-- The cells of values, one behind the other. -/
def flat (ps : List (Value × Tm)) : List Value := ps.flatMap fun p => cells6 p.1
theorem flat_app (a b : List (Value × Tm)) : flat (a ++ b) = flat a ++ flat b := by simp [flat]
theorem IsT.six {w : World} {t : Tm} {v : Value} (h : IsT w t v) : (cells6 v).length = 6 := by
  obtain ⟨sl, sk, rfl, -⟩ := h.open
  rfl
/-- The row of terms that wait. -/
def WaitT (w : World) (base : Nat) (v : Value) (ps : List (Value × Tm)) : Prop := w.ownsRow base 27 6 v ps.length (flat ps)
theorem Tryd.infoT : (Tryd.prog.info? 27).map (fun i => (i.zero, i.size, i.bytes)) = some (some (.agg #[.int .i64 0, .bool false, .slice none 0 0, .string ⟨#[]⟩, .int .i64 0, .slice none 0 0]), 6, 88) := by kernel_rfl
end Go.Proofs.YtnfnnngdbeplaaaDoor
