import Derived.RangeFuncNested
import Derived.RangeFuncBound
import Derived.RangeFuncCalls
import Derived.RangeFuncLeaves
import Derived.Shelf.Abstract
import Derived.Shelf.RegionOpen
import Derived.WalkKit
import Derived.OwnWalkIn
import Derived.TacticsInMore
import Derived.LoopNIn
import Derived.LoopIn
import Derived.Test.YtbmondbicnfcpaaDoorZTermA
import Derived.Test.YtbmondbicnfcpaaDoorTermTotal
import Derived.Deep.RegionHeld
import Derived.Maps.AppendAt
import Derived.Deep.AppendLies
/-
  slices.Backward over a slice of terms: the iterator's contract.
-/
namespace Go.Proofs.YtbmondbicnfcpaaDoor
open Go.RowKit Go.Shelf
set_option linter.unusedVariables false
set_option linter.unusedSimpArgs false
attribute [local go_sem] Oper.semAt_some

/-- What a round is handed: a number and a term that is read in w0. -/
structure El (w0 : World) where
  i : Nat
  v : Value
  t : Tm
  h : IsT w0 t v

/-- What has come, from the last one on. -/
def Came {w0 : World} (K : List Tm) (pre : List (El w0)) : Prop := pre.length ≤ K.length ∧ ∀ j (h : j < pre.length), pre[j].i + j + 1 = K.length ∧ K[pre[j].i]? = some pre[j].t

theorem Came.nil {w0 : World} (K : List Tm) : Came (w0 := w0) K [] := ⟨by simp, fun j h => absurd h (by simp)⟩
theorem Came.more {w0 : World} {K : List Tm} {pre : List (El w0)} (h : Came K pre) (x : El w0) (h1 : x.i + pre.length + 1 = K.length) (h2 : K[x.i]? = some x.t) : Came K (pre ++ [x]) := by
  refine ⟨by simp; omega, fun j hj => ?_⟩
  by_cases hl : j < pre.length
  · rw [List.getElem_append_left hl]; exact h.2 j hl
  · have : j = pre.length := by simp at hj; omega
    subst this
    rw [List.getElem_append_right (by omega)]
    simpa using ⟨h1, h2⟩

/-- What a round keeps: all that lay below m, and the block Bn. -/
def KpB (m Bn : Nat) (W W' : World) : Prop := Below m W W' ∧ W'.heap[Bn]? = W.heap[Bn]?
theorem KpB.refl (m Bn : Nat) (W : World) : KpB m Bn W W := ⟨Below.refl _ _, rfl⟩
theorem KpB.trans {m Bn : Nat} {A B C : World} (h : KpB m Bn A B) (k : KpB m Bn B C) : KpB m Bn A C := ⟨h.1.trans k.1, k.2.trans h.2⟩

theorem back_any (sv : Value) (w : World) (hs : IsS sv) : Calls Tryd.prog 69 #[sv] w fun e w' => e = .returned (.func (.func 119) #[] #[.pointer (some ⟨w.heap.size, 0, none⟩)]) ∧ w' = w.alloc (.cells #[sv] 27) := by
  obtain ⟨p, n, c, rfl⟩ := hs
  go_enter Tryd.func69, Tryd.ntmps69
  go_wp2_with fail
  go_ret
  exact ⟨rfl, rfl⟩

set_option maxRecDepth 100000 in
set_option maxHeartbeats 2000000 in
theorem back_stops (F : Fence) (n : Nat) (hF : F.fn 119) (hro : F.round = none) (hn : 1 ≤ n) (Bn : Nat) (sv : Value) (K : List Tm) (w0 w : World) (hT : Ts w0 sv K) (hb : Below w0.heap.size w0 w) (hBn : Bn < w.heap.size) (hcell : w.cell? ⟨Bn, 0, none⟩ = some sv) :
    SeqStopsK F n Tryd.prog 119 #[.pointer (some ⟨Bn, 0, none⟩)] (fun x : El w0 => #[Value.int .i64 (x.i : Int), x.v]) (KpB w0.heap.size Bn) (fun xs => Came K xs ∧ xs.length = K.length) (fun _ => True) K.length w := fun l J Jx W hW _ _ hY h0 => by
  have hcW : W.cell? ⟨Bn, 0, none⟩ = some sv := (hW.cell (p := ⟨Bn, 0, none⟩) hBn).trans hcell
  have hbW : Below w0.heap.size w0 W := hb.trans (hW.mono hb.size)
  obtain ⟨a, cap, rfl, hc1, hc2, hc3⟩ := hT.shape
  have hlen : (K.length : Int) ≤ 9223372036854775807 := by omega
  refine callsIn_of_wp Tryd.func119 rfl hF ?_ hro
  simp only [Tryd.ntmps119, List.size_toArray, List.length_cons, List.length_nil, Nat.reduceAdd, Nat.reduceSub, Array.replicate_succ, Array.replicate_zero, List.push_toArray, List.append_toArray, List.nil_append, List.cons_append]
  gi_wp2
  gi_loopw [3] (fun i wr => ∃ (k : Nat) (pre : List (El w0)), k + pre.length = K.length ∧ i = .int .i64 ((k : Int) - 1) ∧ Came K pre ∧ J pre wr ∧ KpB w0.heap.size Bn W wr)
    (fun i _ => (intOf i + 1).toNat)
  case atStart => exact ⟨K.length, [], by simp, rfl, Came.nil K, h0, KpB.refl _ _ _⟩
  case round =>
    obtain ⟨k, pre, hk, rfl, hcm, hJ, hKp⟩ := hrel
    cases k with
    | zero =>
      gi_wp2
      go_end0
      exact ⟨⟨_, rfl⟩, .inl ⟨pre, ⟨hcm, by omega⟩, hJ⟩⟩
    | succ q =>
      rw [show ((q + 1 : Nat) : Int) - 1 = (q : Int) by omega]
      have hqk : q < K.length := by omega
      have hqk' : (q : Int) < (K.length : Int) := by omega
      obtain ⟨b, off, v, rfl, hlt, h6, hv⟩ := hT.at q hqk
      have hcB : wr.cell? ⟨Bn, 0, none⟩ = some (.slice (some ⟨b, off, none⟩) K.length cap) := by
        rw [World.cell?_of_block (w := W) (a := ⟨Bn, 0, none⟩) hKp.2]; exact hcW
      replace h6 := h6.below (hbW.trans hKp.1) hlt
      have hcm2 : Came K (pre ++ [⟨q, v, K[q], hv⟩]) := hcm.more ⟨q, v, K[q], hv⟩ (by show q + pre.length + 1 = K.length; omega) (by simp [hqk])
      obtain ⟨fn, tmps, assign, body, hy, hR⟩ := hY pre ⟨q, v, K[q], hv⟩ wr hJ (by omega)
      dsimp only at hy
      obtain ⟨e0, e1, e2, e3, e4, e5, rfl, p0, p1, p2, p3, p4, p5⟩ := h6
      gi_wp2
      refine hR.mono ?_
      rintro e W3 (⟨rfl, hJ3, hk3⟩ | ⟨rfl, hJx3⟩)
      · gi_wp2
        go_roundw
        case rel => exact ⟨q, _, by simp; omega, rfl, hcm2, hJ3, hKp.trans hk3⟩
        case measure => simp [intOf]
      · gi_wp2
        refine bodyPost_ret (results_none rfl _ _ _) rfl ?_
        exact ⟨⟨_, rfl⟩, .inr ⟨_, trivial, hJx3⟩⟩
end Go.Proofs.YtbmondbicnfcpaaDoor

/-
  term.mark, ends; the row of terms that wait for their text.
-/
namespace Go.Proofs.YtbmondbicnfcpaaDoor
open Go.RowKit Go.Shelf
set_option linter.unusedVariables false
set_option linter.unusedSimpArgs false

theorem results_bt1 {fn : Func} {q : Tmp} (h : fn.results = #[.cell q 29]) (tmps : Array Value) (w : World) (g : Nat) (k : Int) (neg : Bool) (sl : Value) (S : ByteArray) (N : Int) (sk : Value) (hq : tmps.getD q undef = .pointer (some ⟨g, 0, none⟩)) (hb : Bt w g k neg sl S N sk) :
    (results fn tmps).run Tryd.prog w = .ok (tmV k neg sl S N sk) w := by
  have hl := hb.load
  simp only [Array.getD_eq_getD_getElem?] at hq
  simp only [results, h]
  simp [hq, asAddr, hl, tmV]

/-- A mark: an atom, whatever its name is. -/
def tmMark (s : ByteArray) : Tm := .mk 2 false [] s 0 []
def mkV (s : ByteArray) : Value := tmV 2 false (.slice none 0 0) s 0 (.slice none 0 0)
theorem mark_is (s : ByteArray) (w : World) (hs : (s.size : Int) ≤ 140737488355328) : IsT w (tmMark s) (mkV s) := IsT.shut (by omega) (by omega) hs (Sl.nil w) (Ts.nil w)

set_option maxHeartbeats 1000000 in
theorem mark_any (s : ByteArray) (w : World) : Calls Tryd.prog 68 #[.string s] w fun e w' => e = .returned (mkV s) ∧ Below w.heap.size w w' := by
  go_enter Tryd.func68, Tryd.ntmps68
  go_wp2_with fail
  refine bodyPost_ret (results_bt1 rfl _ _ w.heap.size 2 false (.slice none 0 0) s 0 (.slice none 0 0) rfl (Bt.new w 2 false (.slice none 0 0) s 0 (.slice none 0 0) ⟨_, _, _, rfl⟩ ⟨_, _, _, rfl⟩)) rfl ⟨rfl, (Below.refl _ _).alloc (Nat.le_refl _) _⟩

set_option maxHeartbeats 1000000 in
theorem ends_two (t : Tm) (v : Value) (w : World) (h : IsT w t v) (h2 : 2 ≤ t.kids.length) : Calls Tryd.prog 35 #[v] w fun e w' => (∃ sk, e = .returned sk ∧ Ts w sk (t.kids.take 2)) ∧ Below w.heap.size w w' := by
  obtain ⟨sl, sk, rfl, hl, hk, -, -, -⟩ := h.open
  obtain ⟨pl, cl, rfl⟩ := hl.shape
  obtain ⟨pk, ck, rfl, hc1, hc2, -⟩ := hk.shape
  have h2' : (2 : Int) ≤ (t.kids.length : Int) := by omega
  have hc3 : (2 : Int) ≤ (ck : Int) := by omega
  have HT : Hid (Ts w (.slice pk 2 ck) (t.kids.take 2)) := hk.take 2 h2
  simp only [tmV] at *
  go_enter Tryd.func35, Tryd.ntmps35
  go_wp2_with fail
  go_ret
  exact ⟨⟨_, rfl, HT.out⟩, (Below.refl _ _).alloc (Nat.le_refl _) _⟩

def cells6 : Value → List Value
  | .agg a => a.toList
  | _ => []
/-- The cells of values, one behind the other. -/
def flat (ps : List (Value × Tm)) : List Value := ps.flatMap fun p => cells6 p.1
theorem flat_app (a b : List (Value × Tm)) : flat (a ++ b) = flat a ++ flat b := by simp [flat]
theorem IsT.six {w : World} {t : Tm} {v : Value} (h : IsT w t v) : (cells6 v).length = 6 := by
  obtain ⟨sl, sk, rfl, -⟩ := h.open
  rfl
/-- The row of terms that wait. -/
def WaitT (w : World) (base : Nat) (v : Value) (ps : List (Value × Tm)) : Prop := w.ownsRow base 29 6 v ps.length (flat ps)
theorem Tryd.infoT : (Tryd.prog.info? 29).map (fun i => (i.zero, i.size, i.bytes)) = some (some (.agg #[.int .i64 0, .bool false, .slice none 0 0, .string ⟨#[]⟩, .int .i64 0, .slice none 0 0]), 6, 88) := by kernel_rfl
end Go.Proofs.YtbmondbicnfcpaaDoor

/-
  A region that draws its order, in a round of a range over a function: as outside of it (no operation defers).
-/
namespace Go.Proofs.YtbmondbicnfcpaaDoor
open Go.RowKit Go.Shelf
set_option linter.unusedVariables false

theorem rowsIn_of {P : Program} {row : String} {args : Array Value} {w : World} {R : Value → World → Prop} (l n : Nat) (h : Rows P row args w R) : RowsIn (Fence.wide.inRound l) n P row args w R := by
  intro c cs _
  obtain ⟨v, w', r, s⟩ := h c cs
  exact ⟨v, w', r, (stepsIn_wide (P := P)).2 s⟩

theorem wpOp_round {P : Program} {ops : Array Oper} {Q : Exit → Act → World → Prop} (l n i : Nat) (K : Act → World → Prop) (a : Act) (w : World) (hnd : ∀ o, ops[i]? = some o → ∀ c, o.op ≠ .defer c) (hlo : ¬ LetsOut Q) (h : wpOp P ops Q i K a w) :
    wpOpIn (Fence.wide.inRound l) n P ops Q i K a w := by
  unfold wpOp at h
  unfold wpOpIn
  cases ho : ops[i]? with
  | none => simpa [ho] using h
  | some o =>
    simp only [ho] at h ⊢
    by_cases hw : Region.wanted o (yielded ops a.tmps) = true
    · rw [if_pos hw] at h
      rw [if_pos hw]
      rcases h with h | h
      · refine ⟨fun _ _ => trivial, ?_⟩
        show o.uponIn _ n P a K Q ((o.semAt (some l) a.eval).run P w)
        rw [Oper.semAt_some l _ _ (hnd o ho)]
        unfold Oper.wp at h
        cases hr : (execOp a.eval o).run P w with
        | ok x w' =>
          rw [hr] at h
          cases x with
          | value v => exact h
          | skip => exact h
          | defer d => exact h
          | enter f args => exact ⟨(fun h => by cases h), (callsIn_wide.2 h)⟩
          | row r args => exact ⟨(fun h => by cases h), rowsIn_of l _ h⟩
          | _ => exact h.elim
        | halt x w' =>
          rw [hr] at h
          cases x with
          | panic v => exact h
          | _ => exact h.elim
      · exact absurd h.2 hlo
    · rw [if_neg hw] at h
      rw [if_neg hw]
      exact ⟨fun _ _ => trivial, h⟩

theorem wpAny_round {P : Program} {md : Region.Mode} {ops : Array Oper} {Q : Exit → Act → World → Prop} (l n : Nat) (hnd : ∀ (i : Nat) (o : Oper), ops[i]? = some o → ∀ c, o.op ≠ .defer c) (hlo : ¬ LetsOut Q) :
    ∀ (fuel : Nat) (listed : Array Bool) (a : Act) (w : World), wpAny P md ops Q fuel listed a w → wpAnyIn (Fence.wide.inRound l) n P md ops Q fuel listed a w := by
  intro fuel
  induction fuel with
  | zero => intro listed a w h; exact h
  | succ fuel ih =>
    intro listed a w h
    exact ⟨h.1, fun i hi => wpOpIn_mono (fun a w h => ih _ a w h) (wpOp_round l n i _ a w (hnd i) hlo (h.2 i hi))⟩

/-- No operation defers. -/
def noDefer (ops : Array Oper) : Bool := ops.toList.all fun o => match o.op with | .defer _ => false | _ => true
theorem noDefer_spec {ops : Array Oper} (h : noDefer ops = true) : ∀ (i : Nat) (o : Oper), ops[i]? = some o → ∀ c, o.op ≠ .defer c := by
  intro i o ho c hc
  have h' : (ops.toList.all fun o => match o.op with | .defer _ => false | _ => true) = true := h
  have hm : o ∈ ops.toList := by
    rw [← Array.getElem?_toList] at ho
    exact List.mem_of_getElem? ho
  have := List.all_eq_true.1 h' o hm
  rw [hc] at this
  cases this

theorem wpIn_round_held {P : Program} {id : Nat} {ops : Array Oper} {Q : Exit → Act → World → Prop} {S : World → Prop} {l n : Nat} {a : Act} {w : World} (hm : P.follows .mixedOrders = true) (hnd : noDefer ops = true) (hlo : ¬ LetsOut Q) (hS : S w.drew)
    (h : S w.drew → wpAnyH P .any ops Q S ops.size (Array.replicate ops.size false) a w.drew) : (Code.region id ops true).wpIn (Fence.wide.inRound l) n P Q a w :=
  wpIn_region_any hm (wpAny_round l n (noDefer_spec hnd) hlo _ _ _ _ (wpAny_of_held _ _ _ _ (h hS)))
end Go.Proofs.YtbmondbicnfcpaaDoor

/-
  A term laid on those that wait, world by world.
-/
namespace Go.Proofs.YtbmondbicnfcpaaDoor
open Go.RowKit Go.Shelf
set_option linter.unusedVariables false
set_option linter.unusedSimpArgs false

/-- A term's zero value, cell by cell. -/
def zc : List Value := [.int .i64 0, .bool false, .slice none 0 0, .string ⟨#[]⟩, .int .i64 0, .slice none 0 0]

/-- The boxes of what waits and of the mark between, and the row itself. -/
def Pz (B : Nat) (w : World) (g0 bw : Nat) (m : ByteArray) (bv : Value) (g cap n : Nat) (xs : List Value) (W : World) : Prop :=
  W.heap[bw]? = some (.cells #[bv] 27 (0, 0)) ∧ W.heap[bw + 1]? = some (.cells #[.string m] 9 (0, 0)) ∧
  W.ownsRow B 29 6 (.slice (some ⟨g, 0, none⟩) n cap) n xs ∧ w.grownBy W (some g0) ∧ (g = g0 ∨ w.heap.size ≤ g) ∧ w.heap.size ≤ bw

section
variable {B : Nat} {w : World} {g0 bw : Nat} {m : ByteArray} {bv : Value} {g cap n : Nat} {xs : List Value} {W W' : World}

theorem Pz.cells (h : Pz B w g0 bw m bv g cap n xs W) : W.cell? ⟨bw, 0, none⟩ = some bv ∧ W.frozen? ⟨bw, 0, none⟩ = false ∧ W.cell? ⟨bw + 1, 0, none⟩ = some (.string m) ∧ bw < W.heap.size ∧ bw + 1 < W.heap.size := by
  obtain ⟨h1, h2, -⟩ := h
  refine ⟨?_, ?_, ?_, (Array.getElem?_eq_some_iff.1 h1).1, (Array.getElem?_eq_some_iff.1 h2).1⟩
  · simp [World.cell?, h1]
  · simp [World.frozen?, h1]
  · simp [World.cell?, h2]
theorem Pz.row (h : Pz B w g0 bw m bv g cap n xs W) : ∃ cur, W.heap[g]? = some (.cells cur 29 (0, 0)) ∧ n ≤ cap ∧ cap ≤ maxLen ∧ B ≤ g := by
  rcases h.2.2.1.2 with ⟨h', _⟩ | ⟨g', cap', cur, h', hb, hg, h1, h2, _⟩
  · simp at h'
  · simp only [Value.slice.injEq, Option.some.injEq, Addr.mk.injEq, and_true, true_and] at h'
    obtain ⟨rfl, rfl⟩ := h'
    exact ⟨cur, hg, h1, h2, hb⟩
theorem Pz.ne (h : Pz B w g0 bw m bv g cap n xs W) : bw ≠ g ∧ bw + 1 ≠ g := by
  obtain ⟨cur, hg, -⟩ := h.row
  refine ⟨fun e => ?_, fun e => ?_⟩
  · have := h.1
    rw [e, hg] at this
    simp at this
  · have := h.2.1
    rw [e, hg] at this
    simp at this
theorem Pz.below (h : Pz B w g0 bw m bv g cap n xs W) (hb : Below W.heap.size W W') : Pz B w g0 bw m bv g cap n xs W' := by
  obtain ⟨-, -, -, l1, l2⟩ := h.cells
  obtain ⟨cur, hg, -⟩ := h.row
  obtain ⟨h1, h2, h3, h4, h5, h6⟩ := h
  refine ⟨by rw [hb.block bw l1]; exact h1, by rw [hb.block (bw + 1) l2]; exact h2, ?_, ?_, h5, h6⟩
  · exact World.ownsRow.kept (row := none) h3 ⟨hb.os, hb.tape, hb.output, hb.size, fun k hk _ => hb.block k hk⟩ (Or.inr (by simp [Value.ownBlock]))
  · exact ⟨hb.os.trans h4.os, hb.tape.trans h4.tape, hb.output.trans h4.output, Nat.le_trans h4.size hb.size, fun k hk hne => (hb.block k (Nat.lt_of_lt_of_le hk h4.size)).trans (h4.block k hk hne)⟩
theorem Pz.alloc (h : Pz B w g0 bw m bv g cap n xs W) (o : Obj) : Pz B w g0 bw m bv g cap n xs (W.alloc o) := h.below ((Below.refl _ _).alloc (Nat.le_refl _) o)
theorem Pz.drew (h : Pz B w g0 bw m bv g cap n xs W) : Pz B w g0 bw m bv g cap n xs W.drew := h.below ((Below.refl _ _).drew)
theorem Pz.grown {g' cap' n' : Nat} {xs' : List Value} (h : Pz B w g0 bw m bv g cap n xs W) (hg : W.grownBy W' (some g)) (ho : W'.ownsRow B 29 6 (.slice (some ⟨g', 0, none⟩) n' cap') n' xs') (hat : some g = some g' ∨ g' = W.heap.size) :
    Pz B w g0 bw m bv g' cap' n' xs' W' := by
  obtain ⟨-, -, -, l1, l2⟩ := h.cells
  obtain ⟨n1, n2⟩ := h.ne
  obtain ⟨h1, h2, h3, h4, h5, h6⟩ := h
  refine ⟨by rw [hg.block bw l1 (by simpa using n1)]; exact h1, by rw [hg.block (bw + 1) l2 (by simpa using n2)]; exact h2, ho, ?_, ?_, h6⟩
  · refine ⟨hg.os.trans h4.os, hg.tape.trans h4.tape, hg.output.trans h4.output, Nat.le_trans h4.size hg.size, fun k hk hne => ?_⟩
    rw [← h4.block k hk hne]
    refine hg.block k (Nat.lt_of_lt_of_le hk h4.size) ?_
    rcases h5 with rfl | h5
    · exact hne
    · intro e
      injection e with e
      omega
  · rcases hat with e | e
    · injection e with e
      rw [← e]; exact h5
    · right
      rw [e]; exact h4.size
theorem Pz.box (h : Pz B w g0 bw m bv g cap n xs W) (bv' : Value) : Pz B w g0 bw m bv' g cap n xs (W.setCell ⟨bw, 0, none⟩ bv') := by
  obtain ⟨-, -, -, l1, l2⟩ := h.cells
  obtain ⟨n1, n2⟩ := h.ne
  obtain ⟨h1, h2, h3, h4, h5, h6⟩ := h
  have hbut := (But.refl bw W).setCell 0 bv'
  refine ⟨?_, by rw [hbut.block (bw + 1) (by omega)]; exact h2, ?_, ?_, h5, h6⟩
  · simp [World.setCell, Array.getElem?_modify, h1]
  · exact World.ownsRow.kept (row := some bw) h3 ⟨rfl, rfl, rfl, by simp [World.setCell], fun k _ hk => hbut.block k (by simpa using hk)⟩ (Or.inr (by simpa [Value.ownBlock] using fun e => n1 e.symm))
  · exact ⟨h4.os, h4.tape, h4.output, by simpa [World.setCell] using h4.size, fun k hk hne => (hbut.block k (by omega)).trans (h4.block k hk hne)⟩

/-- Six cells of the row are laid anew. -/
def setT (W : World) (g o : Nat) (v0 v1 v2 v3 v4 v5 : Value) : World := (((((W.setCell ⟨g, o, none⟩ v0).setCell ⟨g, o + 1, none⟩ v1).setCell ⟨g, o + 2, none⟩ v2).setCell ⟨g, o + 3, none⟩ v3).setCell ⟨g, o + 4, none⟩ v4).setCell ⟨g, o + 5, none⟩ v5

theorem Pz.put (h : Pz B w g0 bw m bv g cap n xs W) (o : Nat) (v0 v1 v2 v3 v4 v5 : Value) :
    Pz B w g0 bw m bv g cap n ((((((xs.set o v0).set (o + 1) v1).set (o + 2) v2).set (o + 3) v3).set (o + 4) v4).set (o + 5) v5) (setT W g o v0 v1 v2 v3 v4 v5) := by
  have s0 := h.2.2.1.stored o v0
  have s1 := s0.1.stored (o + 1) v1
  have s2 := s1.1.stored (o + 2) v2
  have s3 := s2.1.stored (o + 3) v3
  have s4 := s3.1.stored (o + 4) v4
  have s5 := s4.1.stored (o + 5) v5
  refine h.grown (W' := setT W g o v0 v1 v2 v3 v4 v5) ?_ s5.1 (Or.inl rfl)
  have hbut : But g W (setT W g o v0 v1 v2 v3 v4 v5) := ((((((But.refl g W).setCell o _).setCell (o + 1) _).setCell (o + 2) _).setCell (o + 3) _).setCell (o + 4) _).setCell (o + 5) _
  exact ⟨hbut.os, hbut.tape, hbut.output, Nat.le_of_eq hbut.size.symm, fun k _ hk => hbut.block k (by simpa using hk)⟩

/-- The zero cells at the row's end, as they are found. -/
theorem Pz.tail {ys : List Value} (h : Pz B w g0 bw m bv g cap (n + 1) (ys ++ zc) W) (hy : ys.length = n * 6) :
    (W.cell? ⟨g, n * 6, none⟩ = some (.int .i64 0) ∧ W.cell? ⟨g, n * 6 + 1, none⟩ = some (.bool false) ∧ W.cell? ⟨g, n * 6 + 2, none⟩ = some (.slice none 0 0) ∧ W.cell? ⟨g, n * 6 + 3, none⟩ = some (.string ⟨#[]⟩) ∧ W.cell? ⟨g, n * 6 + 4, none⟩ = some (.int .i64 0) ∧ W.cell? ⟨g, n * 6 + 5, none⟩ = some (.slice none 0 0)) ∧
    (W.frozen? ⟨g, n * 6, none⟩ = false ∧ W.frozen? ⟨g, n * 6 + 1, none⟩ = false ∧ W.frozen? ⟨g, n * 6 + 2, none⟩ = false ∧ W.frozen? ⟨g, n * 6 + 3, none⟩ = false ∧ W.frozen? ⟨g, n * 6 + 4, none⟩ = false ∧ W.frozen? ⟨g, n * 6 + 5, none⟩ = false) := by
  have ho := h.2.2.1
  have hget : ∀ j, j < 6 → W.cell? ⟨g, n * 6 + j, none⟩ = zc[j]? := fun j hj => by
    rw [ho.cellAt (n * 6 + j) (by omega), List.getElem?_append_right (by omega), show n * 6 + j - ys.length = j by omega]
  exact ⟨⟨hget 0 (by omega), hget 1 (by omega), hget 2 (by omega), hget 3 (by omega), hget 4 (by omega), hget 5 (by omega)⟩, ho.frozenAt _, ho.frozenAt _, ho.frozenAt _, ho.frozenAt _, ho.frozenAt _, ho.frozenAt _⟩

theorem set_tail (ys : List Value) (o : Nat) (ho : ys.length = o) (v0 v1 v2 v3 v4 v5 : Value) : (((((((ys ++ zc).set o v0).set (o + 1) v1).set (o + 2) v2).set (o + 3) v3).set (o + 4) v4).set (o + 5) v5) = ys ++ [v0, v1, v2, v3, v4, v5] := by
  subst ho
  simp [zc, List.set_append_right]
end

/-- Those that wait in spell: the box holds the row. -/
def Sp (B : Nat) (w : World) (g0 bw : Nat) (m : ByteArray) (ps : List (Value × Tm)) (W : World) : Prop :=
  ∃ g cap, Pz B w g0 bw m (.slice (some ⟨g, 0, none⟩) ps.length cap) g cap ps.length (flat ps) W

/-- The k-th operation of a region. -/
def nth : List Oper → Nat → Option Oper
  | [], _ => none
  | o :: _, 0 => some o
  | _ :: l, k + 1 => nth l k
theorem nth_eq : ∀ (l : List Oper) (k : Nat), nth l k = l[k]?
  | [], _ => rfl
  | _ :: _, 0 => rfl
  | _ :: l, k + 1 => by simp [nth, nth_eq l k]
theorem nth_ops {ops : Array Oper} {i : Nat} {o : Oper} (h : nth ops.toList i = some o) : ops[i]? = some o := by
  rw [nth_eq] at h
  simpa using h
theorem zc_one : ∀ u ∈ zc, u.oneCell' = true := by
  intro u hu
  simp only [zc, List.mem_cons, List.not_mem_nil, or_false] at hu
  rcases hu with rfl | rfl | rfl | rfl | rfl | rfl <;> rfl

/-- What a round leaves as it was: all below m, the block Bn, whatever is no cells. -/
structure KB (m Bn : Nat) (vl : Value) (W0 W : World) : Prop where
  os : W.os = W0.os
  tape : W.tape = W0.tape
  output : W.output = W0.output
  size : W0.heap.size ≤ W.heap.size
  low : ∀ k : Nat, k < m → W.heap[k]? = W0.heap[k]?
  bn : W.heap[Bn]? = some (.cells #[vl] 27 (0, 0))
  oth : ∀ (k : Nat) (o : Obj), W0.heap[k]? = some o → o.isCells = false → W.heap[k]? = some o
  hm : m ≤ W0.heap.size
  hbn : W0.heap[Bn]? = some (.cells #[vl] 27 (0, 0))

theorem KB.start {m Bn : Nat} {vl : Value} {W : World} (hm : m ≤ W.heap.size) (h : W.heap[Bn]? = some (.cells #[vl] 27 (0, 0))) : KB m Bn vl W W :=
  ⟨rfl, rfl, rfl, Nat.le_refl _, fun _ _ => rfl, h, fun _ _ h _ => h, hm, h⟩
theorem KB.below {m Bn : Nat} {vl : Value} {W0 W W' : World} (h : KB m Bn vl W0 W) (b : Below W.heap.size W W') : KB m Bn vl W0 W' := by
  refine ⟨b.os.trans h.os, b.tape.trans h.tape, b.output.trans h.output, Nat.le_trans h.size b.size, fun k hk => ?_, ?_, fun k o hk ho => ?_, h.hm, h.hbn⟩
  · rw [b.block k (by have := h.hm; have := h.size; omega)]; exact h.low k hk
  · rw [b.block Bn (Array.getElem?_eq_some_iff.1 h.bn).1]; exact h.bn
  · rw [b.block k (Array.getElem?_eq_some_iff.1 (h.oth k o hk ho)).1]; exact h.oth k o hk ho
theorem KB.grown {m Bn : Nat} {vl : Value} {W0 W W' : World} {r : Nat} {cur : Array Value} {t : TypeId} {fr : Nat × Nat} (h : KB m Bn vl W0 W) (hg : W.grownBy W' (some r)) (hr : m ≤ r) (hc : W.heap[r]? = some (.cells cur t fr)) (hne : r ≠ Bn) : KB m Bn vl W0 W' := by
  refine ⟨hg.os.trans h.os, hg.tape.trans h.tape, hg.output.trans h.output, Nat.le_trans h.size hg.size, fun k hk => ?_, ?_, fun k o hk ho => ?_, h.hm, h.hbn⟩
  · rw [hg.block k (by have := h.hm; have := h.size; omega) (by intro e; injection e with e; omega)]; exact h.low k hk
  · rw [hg.block Bn (Array.getElem?_eq_some_iff.1 h.bn).1 (by intro e; injection e with e; exact hne e.symm)]; exact h.bn
  · have h1 := h.oth k o hk ho
    rw [hg.block k (Array.getElem?_eq_some_iff.1 h1).1 ?_]
    · exact h1
    · intro e
      injection e with e
      subst e
      rw [hc] at h1
      injection h1 with h1
      subst h1
      cases ho
/-- A row of terms is not the block Bn. -/
theorem KB.row {m Bn : Nat} {vl : Value} {W0 W W' : World} {r : Nat} {cur : Array Value} {fr : Nat × Nat} (h : KB m Bn vl W0 W) (hg : W.grownBy W' (some r)) (hr : m ≤ r) (hc : W.heap[r]? = some (.cells cur 29 fr)) : KB m Bn vl W0 W' :=
  h.grown hg hr hc (fun e => by have := h.bn; rw [← e, hc] at this; simp at this)
theorem grownBy_set (W : World) (b o : Nat) (v : Value) : W.grownBy (W.setCell ⟨b, o, none⟩ v) (some b) := by
  have hbut := (But.refl b W).setCell o v
  exact ⟨hbut.os, hbut.tape, hbut.output, Nat.le_of_eq hbut.size.symm, fun k _ hk => hbut.block k (by simpa using hk)⟩
theorem grownBy_setT (W : World) (g o : Nat) (v0 v1 v2 v3 v4 v5 : Value) : W.grownBy (setT W g o v0 v1 v2 v3 v4 v5) (some g) := by
  have hbut : But g W (setT W g o v0 v1 v2 v3 v4 v5) := ((((((But.refl g W).setCell o _).setCell (o + 1) _).setCell (o + 2) _).setCell (o + 3) _).setCell (o + 4) _).setCell (o + 5) _
  exact ⟨hbut.os, hbut.tape, hbut.output, Nat.le_of_eq hbut.size.symm, fun k _ hk => hbut.block k (by simpa using hk)⟩
section
variable {B : Nat} {w : World} {g0 bw : Nat} {m : ByteArray} {bv : Value} {g cap n : Nat} {xs : List Value} {W W' : World} {Bn : Nat} {vl : Value} {W0 : World}
theorem KB.app (h : KB B Bn vl W0 W) (hP : Pz B w g0 bw m bv g cap n xs W) (hg : W.grownBy W' (some g)) : KB B Bn vl W0 W' := by
  obtain ⟨cur, hc, -, -, hb⟩ := hP.row
  exact h.row hg hb hc
theorem KB.put (h : KB B Bn vl W0 W) (hP : Pz B w g0 bw m bv g cap n xs W) (o : Nat) (v0 v1 v2 v3 v4 v5 : Value) : KB B Bn vl W0 (setT W g o v0 v1 v2 v3 v4 v5) := h.app hP (grownBy_setT W g o v0 v1 v2 v3 v4 v5)
theorem KB.box (h : KB B Bn vl W0 W) (hP : Pz B w g0 bw m bv g cap n xs W) (v : Value) (hB : B ≤ bw) (hne : bw ≠ Bn) : KB B Bn vl W0 (W.setCell ⟨bw, 0, none⟩ v) := h.grown (grownBy_set W bw 0 v) hB hP.1 hne
end

theorem s6 {W : World} {bt : Nat} {c0 c1 c2 c3 c4 c5 : Value} {t : TypeId} (h : W.heap[bt]? = some (.cells #[c0, c1, c2, c3, c4, c5] t (0, 0))) :
    W.cell? ⟨bt, 0, none⟩ = some c0 ∧ W.cell? ⟨bt, 1, none⟩ = some c1 ∧ W.cell? ⟨bt, 2, none⟩ = some c2 ∧ W.cell? ⟨bt, 3, none⟩ = some c3 ∧ W.cell? ⟨bt, 4, none⟩ = some c4 ∧ W.cell? ⟨bt, 5, none⟩ = some c5 := by
  refine ⟨?_, ?_, ?_, ?_, ?_, ?_⟩ <;> simp [World.cell?, h]

/-- What a round lays: the term, and a mark behind it, if it is not the first one. -/
def spiece {w0 : World} (m : ByteArray) (x : El w0) : List (Value × Tm) := (x.v, x.t) :: (if 0 < x.i then [(mkV m, tmMark m)] else [])
def spieces {w0 : World} (m : ByteArray) (pre : List (El w0)) : List (Value × Tm) := pre.flatMap (spiece m)
theorem spieces_snoc {w0 : World} (m : ByteArray) (pre : List (El w0)) (x : El w0) : spieces m (pre ++ [x]) = spieces m pre ++ spiece m x := by simp [spieces]
theorem spieces_len {w0 : World} (m : ByteArray) (pre : List (El w0)) : (spieces m pre).length ≤ 2 * pre.length := by
  induction pre with
  | nil => simp [spieces]
  | cons x r ih =>
    have : spieces m (x :: r) = spiece m x ++ spieces m r := by simp [spieces]
    rw [this]
    have h2 : (spiece m x).length ≤ 2 := by unfold spiece; split <;> simp
    simp; omega
/-- What waits when so many rounds are over. -/
def stk {w0 : World} (ps : List (Value × Tm)) (e m : ByteArray) (pre : List (El w0)) : List (Value × Tm) := ps ++ [(mkV e, tmMark e)] ++ spieces m pre
theorem stk_nil {w0 : World} (ps : List (Value × Tm)) (e m : ByteArray) : stk (w0 := w0) ps e m [] = ps ++ [(mkV e, tmMark e)] := by simp [stk, spieces]
theorem stk_snoc {w0 : World} (ps : List (Value × Tm)) (e m : ByteArray) (pre : List (El w0)) (x : El w0) : stk ps e m (pre ++ [x]) = stk ps e m pre ++ spiece m x := by simp [stk, spieces]
theorem stk_len {w0 : World} (ps : List (Value × Tm)) (e m : ByteArray) (pre : List (El w0)) : (stk ps e m pre).length ≤ ps.length + 1 + 2 * pre.length := by
  have := spieces_len m pre
  simp [stk]; omega

section
variable {B : Nat} {w : World} {g0 bw : Nat} {m : ByteArray} {bv : Value} {g cap n : Nat} {xs : List Value} {W W' : World}
theorem cells_not {W : World} {r k : Nat} {row : Option Nat} {cur : Array Value} {t : TypeId} {fr : Nat × Nat} (hr : ∀ r, row = some r → ∃ o : Obj, W.heap[r]? = some o ∧ o.isCells = false) (hk : W.heap[k]? = some (.cells cur t fr)) : some k ≠ row := by
  intro e
  obtain ⟨o, h1, h2⟩ := hr k e.symm
  rw [hk] at h1
  injection h1 with h1
  subst h1
  cases h2
theorem Pz.own {row : Option Nat} (h : Pz B w g0 bw m bv g cap n xs W) (hg : W.grownBy W' row) (hr : ∀ r, row = some r → w.heap.size ≤ r ∧ ∃ o : Obj, W.heap[r]? = some o ∧ o.isCells = false) : Pz B w g0 bw m bv g cap n xs W' := by
  obtain ⟨-, -, -, l1, l2⟩ := h.cells
  obtain ⟨cur, hc, -⟩ := h.row
  have hr2 : ∀ r, row = some r → ∃ o : Obj, W.heap[r]? = some o ∧ o.isCells = false := fun r e => (hr r e).2
  obtain ⟨h1, h2, h3, h4, h5, h6⟩ := h
  refine ⟨by rw [hg.block bw l1 (cells_not (r := 0) hr2 h1)]; exact h1, by rw [hg.block (bw + 1) l2 (cells_not (r := 0) hr2 h2)]; exact h2, ?_, ?_, h5, h6⟩
  · exact World.ownsRow.kept h3 hg (Or.inr (cells_not (r := 0) hr2 hc))
  · refine ⟨hg.os.trans h4.os, hg.tape.trans h4.tape, hg.output.trans h4.output, Nat.le_trans h4.size hg.size, fun k hk hne => ?_⟩
    rw [← h4.block k hk hne]
    refine hg.block k (Nat.lt_of_lt_of_le hk h4.size) (fun e => ?_)
    have := (hr k e.symm).1
    omega
theorem Pz.new {ps : List (Value × Tm)} (h : WaitT w B (.slice (some ⟨g, 0, none⟩) n cap) ps) (hn : ps.length = n) (hg : g < w.heap.size) :
    Pz B w g w.heap.size m (.slice (some ⟨g, 0, none⟩) n cap) g cap n (flat ps) ((w.alloc (.cells #[.slice (some ⟨g, 0, none⟩) n cap] 27)).alloc (.cells #[.string m] 9)) := by
  subst hn
  refine ⟨?_, ?_, World.ownsRow.alloc (World.ownsRow.alloc h _) _, ?_, Or.inl rfl, Nat.le_refl _⟩
  · rw [Below.heap_alloc _ _ _ (by simp)]; exact heap_alloc_new w _
  · have := heap_alloc_new (w.alloc (.cells #[.slice (some ⟨g, 0, none⟩) ps.length cap] 27)) (.cells #[.string m] 9)
    rwa [World.size_alloc] at this
  · have hb := ((Below.refl w.heap.size w).alloc (Nat.le_refl _) (.cells #[.slice (some ⟨g, 0, none⟩) ps.length cap] 27)).alloc (by simp) (.cells #[.string m] 9)
    exact ⟨hb.os, hb.tape, hb.output, hb.size, fun k hk _ => hb.block k hk⟩
end
end Go.Proofs.YtbmondbicnfcpaaDoor
