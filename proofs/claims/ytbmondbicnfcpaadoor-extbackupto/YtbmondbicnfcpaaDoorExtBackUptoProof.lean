
/-
  For every term, every slice of bytes and every int of bulk at most 1048576 together the law ExtBack returns true; the variable that the program's own text lays is tied to it.
-/
import Derived.Test.YtbmondbicnfcpaaDoorRows
import Derived.Test.YtbmondbicnfcpaaDoorExtBackWalk
import Derived.Test.YtbmondbicnfcpaaDoorExtLaid
import Derived.Test.YtbmondbicnfcpaaDoorBdI
import Derived.Test.YtbmondbicnfcpaaDoorCpOpen
import Derived.Test.YtbmondbicnfcpaaDoorExtBulk
import Derived.Test.YtbmondbicnfcpaaDoorTermOpen
import Derived.WalkKit
import Derived.ProofKit
import Derived.OpenShut
import Derived.ShutString
import Derived.ChangeOld
import Derived.Below
import Derived.Lib.SmallJoins
import Derived.Test.YtbmondbicnfcpaaDoorCards
import Derived.Test.YtbmondbicnfcpaaDoorTie
import Derived.LaidMore
import Derived.LaidLaws
import Derived.Stop.Joined
import Derived.SevenTiedAt
import Derived.Deep.DeepHandedRow
import Derived.Deep.DeepWitnessRowRef
import Derived.SizedLaws
namespace Go.Proofs.YtbmondbicnfcpaaDoor.extBack
open Go.ChangeShapes Go.WideShapes Go.ChangeAt Go.RowKit Go.Joins
open Go.ChangeMaps (open_string shut_string)
set_option linter.unusedVariables false
set_option linter.unusedSimpArgs false

theorem own : ownKnob Tryd.prog.godebug = none := by kernel_rfl
theorem laidOut : laidOutB Tryd.prog = true := by kernel_rfl

def IsRow (k : IntKind) (w : World) (a : Option Addr) (len cap : Nat) (zs : List Int) : Prop :=
  (a = none ∧ len = 0 ∧ cap = 0 ∧ zs = []) ∨
  ∃ x, a = some x ∧ len ≤ cap ∧ cap ≤ maxLen ∧ zs.length = cap ∧ (∀ i, i < zs.length → w.cell? (x.add i) = some (.int k (zs.getD i 0))) ∧ ∀ n ∈ zs, (Lit.int k n).wf = true

theorem walk (v0 : Value) (t0 : Tm) (v1 : Value) (t1 : List UInt8) (x2 : Int) (w : World) (w0 : IsT w t0 v0) (w1 : By w v1 t1) (l1 : t1.length ≤ 2000000) (w2 : (Lit.int .i64 x2).wf = true) (hL : laidMetH Tryd.prog Rows.extBackUptoRow.laid w) :
    Calls Tryd.prog 5 #[v0, v1, .int .i64 x2] w fun e w' => e = .returned (.bool true) ∧ Below w.heap.size w w' := by
  exact extBack_walk t0 v0 v1 t1 x2 w (shp_of_laid hL).1 (shp_of_laid hL).2 w0 w1 l1 (bdI w2).1 (bdI w2).2

/-- The door's own heap meets the condition. -/
theorem door_met (os : Os) (args : Array Value) : laidMetH Tryd.prog Rows.extBackUptoRow.laid ((World.doorLaid Tryd.prog 37 os).forCall (fun _ _ => 0) ⟨#[], args, []⟩).memory :=
  laidMetH_of_parts3 (fuel := 8) (laidMet_of_run' 8 (by kernel_rfl) (by kernel_rfl)) (by kernel_rfl) (by kernel_rfl)

set_option maxRecDepth 100000 in
theorem lifted (os : Os) (started : os.Started) (H : Type) (enc : TypeId × Value → H) (F : Stop.Interp) :
    ReturnsInHanded {} Tryd.checked os 5 .any ((Rows.OpenSpec.upto Rows.extBackSpec).preRow enc Tryd.prog Tryd.f5 Rows.extBackUptoRow.domain false Rows.extBackUptoRow.laid) (((Rows.OpenSpec.upto Rows.extBackSpec).at F).post enc Tryd.prog Tryd.f5 false true false false) := by
  obtain ⟨places, hx⟩ : ∃ places, DataW.whole enc Tryd.prog ((World.doorLaid Tryd.prog 37 os).forCall (fun _ _ => 0) ⟨#[], #[.agg #[.int .i64 0, .bool false, .slice none 0 0, .string ⟨#[]⟩, .int .i64 0, .slice none 0 0], .slice none 0 0, .int .i64 0], []⟩).memory Tryd.f5.params.toList Rows.extBackSpec.vars false (#[.agg #[.int .i64 0, .bool false, .slice none 0 0, .string ⟨#[]⟩, .int .i64 0, .slice none 0 0], .slice none 0 0, .int .i64 0] : Array Value).toList 8 = some ([.agg [.lit (.int .i64 0), .agg [.lit (.bool false), .nil], .lit (.string []), .lit (.int .i64 0), .nil], .nil, .lit (.int .i64 0)], [], places) := ⟨[], by kernel_rfl⟩
  refine returnsInHanded_of_row (C := Tryd.checked) (s := Rows.OpenSpec.upto Rows.extBackSpec) own started (by kernel_rfl) Tryd.func5
    (witness_row_atRef (enc := enc) (C := Tryd.checked) false (World.doorLaid Tryd.prog 37 os) #[.agg #[.int .i64 0, .bool false, .slice none 0 0, .string ⟨#[]⟩, .int .i64 0, .slice none 0 0], .slice none 0 0, .int .i64 0] rfl (by kernel_rfl) (by kernel_rfl) (by kernel_rfl)
      (OpenSpec.preRow_of_cond 8 hx (by kernel_rfl) (fun k hk => by cases hk; kernel_rfl) (by kernel_rfl) (door_met os _))) ?_
  intro W base args ds gs before hval0 hW _ hcond hWt hL _ _
  have hbk : Rows.uptoBulkAll (ds ++ gs) ≤ 1048576 := of_decide_eq_true (hcond _ rfl)
  show Calls Tryd.prog 5 args W fun e W' => ∃ v, e = .returned v ∧ Rows.extBackSpec.post enc Tryd.prog Tryd.f5 false true false false W args v W'
  have hval : ∀ (j : Nat) t v, Tryd.f5.params[j]? = some t → args[j]? = some v → Value.okWide Tryd.prog W .any base t v := hval0
  have hW' := hW
  obtain ⟨p, q, hA0, hV, rfl, hfz, hnd⟩ := hW
  have hA : DataW.TrodAll enc Tryd.prog W 0 (fun _ => true) true Tryd.f5.params.toList args.toList ds p := hA0
  rw [Tryd.params5] at hA hval
  obtain ⟨v0, vs0, d0, ds0, p0, q0, hargs, rfl, rfl, h0, r0⟩ := trodAll_cons hA
  obtain ⟨v1, vs1, d1, ds1, p1, q1, rfl, rfl, rfl, h1, r1⟩ := trodAll_cons r0
  obtain ⟨v2, vs2, d2, ds2, p2, q2, rfl, rfl, rfl, h2, r2⟩ := trodAll_cons r1
  obtain ⟨rfl, rfl, rfl⟩ := trodAll_nil r2
  obtain rfl : args = #[v0, v1, v2] := by cases args; simp_all
  obtain ⟨rfl, rfl⟩ := trodVars_none hV
  have k0 := h0
  have lt0 : ∀ x ∈ p0, x.block < W.heap.size := by obtain ⟨m, hm⟩ := k0; exact DataW.trod_lt m _ _ _ hm
  obtain ⟨t0, w0⟩ : ∃ t, IsT W t v0 := by
    obtain ⟨cs, hcs, hsz⟩ := okWide_struct Tryd.underlying29 (hval 0 29 v0 rfl rfl)
    obtain ⟨fuel, hf⟩ := h0
    obtain ⟨t, c0, c1, c2, c3, c4, c5, e, hi⟩ := term_open fuel _ _ hf (List.all_eq_true.2 (fun n hn => List.all_eq_true.1 hWt n (DataW.weights_mem_each (j := 0) (t := 29) (d := d0) rfl rfl n hn)))
    subst hcs
    obtain ⟨l⟩ := cs
    simp only [Value.cells] at e
    subst e
    exact ⟨t, hi⟩
  have k1 := h1
  have lt1 : ∀ x ∈ p1, x.block < W.heap.size := by obtain ⟨m, hm⟩ := k1; exact DataW.trod_lt m _ _ _ hm
  obtain ⟨t1, w1, l1⟩ : ∃ t, By W v1 t ∧ List.length t ≤ 2000000 := by
    obtain ⟨a, l, c, ea⟩ := okWide_slice Tryd.underlying35 (hval 1 35 v1 rfl rfl)
    subst ea
    obtain ⟨fuel, hf⟩ := h1
    obtain ⟨v, t, e, hy, hl⟩ := bytes_bulk hf (by simp only [List.append_nil, Rows.uptoBulkAll] at hbk; simp only; omega)
    simp [Value.cells] at e
    exact ⟨t, by rw [e]; exact hy, hl⟩
  have k2 := h2
  have lt2 : ∀ x ∈ p2, x.block < W.heap.size := by obtain ⟨m, hm⟩ := k2; exact DataW.trod_lt m _ _ _ hm
  obtain ⟨x2, ex2, -, -, w2⟩ := open_int Tryd.underlying3 (hval 2 3 v2 rfl rfl) h2
  subst ex2
  clear hA0 hval0
  refine (walk v0 t0 v1 t1 x2 W w0 w1 l1 w2 hL).mono fun e W' ⟨he, bel⟩ => ?_
  subst he
  exact ⟨_, rfl, _, _, _, [], _, [], hW', trodAll_mk1 (shut_bool Tryd.underlying4 _), (trodAll_cons_mk (Below.trod laidOut (by kernel_rfl) (of_decide_eq_true (by kernel_rfl)) k0 bel lt0) (trodAll_cons_mk (Below.trod laidOut (by kernel_rfl) (of_decide_eq_true (by kernel_rfl)) k1 bel lt1) (trodAll_cons_mk (Below.trod laidOut (by kernel_rfl) (of_decide_eq_true (by kernel_rfl)) k2 bel lt2) trodAll_mk0))), rfl, bel.frame _, fun h => by cases h⟩

theorem over : Rows.ExtBackUptoSaid :=
  OpenClaim.holds_of_cond 5 Tryd.f5 rfl rfl rfl rfl rfl rfl rfl ⟨rfl, rfl, rfl, rfl, rfl⟩ rfl rfl rfl rfl rfl (by kernel_rfl) Tryd.func5 (by kernel_rfl)
    (of_decide_eq_true (by kernel_rfl)) (by unfold Func.isWrapper; first | (rw [if_pos (by decide +kernel)]; kernel_rfl) | (rw [if_neg (by decide +kernel)]; exact ⟨rfl, rfl⟩))
    (fun os started H enc _ F => by rw [OpenClaim.pre_eq_preRow]; exact lifted os started H enc F)

theorem proved : Rows.ExtBackUptoCardSaid :=
  Claim7.holds_tied_plain_at .later [] [.data] true (true, "08259ab98136425d4875eefd416e50be3f9e91c611b491408ff7f45657117286") false
    over (fun _ h => by cases h) (by kernel_rfl) (fun _ h => by cases h) extBackUpto_row_tie rfl ⟨rfl, rfl⟩ (by kernel_rfl) rfl
    (fun f fn hf hfn => by
      obtain rfl : f = 5 := Option.some.inj ((show Tryd.prog.funcNamed Tryd.f5.name = some 5 by kernel_rfl).symm.trans hf) |>.symm
      obtain rfl : fn = Tryd.f5 := (Option.some.inj (Tryd.func5.symm.trans hfn)).symm
      refine ⟨by kernel_rfl, fun j t ht => ?_⟩
      rw [Tryd.params5] at ht
      rcases j with _ | j
      · obtain rfl : t = 29 := by simpa using ht.symm
        exact (show Tryd.prog.wantsStandIn 29 = false by kernel_rfl)
      rcases j with _ | j
      · obtain rfl : t = 35 := by simpa using ht.symm
        exact (show Tryd.prog.wantsStandIn 35 = false by kernel_rfl)
      rcases j with _ | j
      · obtain rfl : t = 3 := by simpa using ht.symm
        exact (show Tryd.prog.wantsStandIn 3 = false by kernel_rfl)
      · simp at ht)
    (by kernel_rfl)
end Go.Proofs.YtbmondbicnfcpaaDoor.extBack

namespace Go.Proofs.YtbmondbicnfcpaaDoor
theorem extBack_holds : Rows.ExtBackUptoCardSaid := extBack.proved
#print axioms extBack_holds
end Go.Proofs.YtbmondbicnfcpaaDoor
