/-
  A whole aggregate stored into the block that was made last, as one step of a walk.
-/
import Derived.Test.YtfcdocgjmgpmkaaDoorZLimbA
import Derived.Deep.WholeRow
namespace Go.Proofs.YtfcdocgjmgpmkaaDoor
open Go.RowKit
set_option linter.unusedVariables false

theorem wpList_store_new {ops : Array Oper} {rest : List Oper} {o : Oper} {a : Act} {Q : Exit → Act → World → Prop} {w w0 : World} (hgd : o.guard = none) (p x : Operand) (t : TypeId) (ho : o.op = .store t p x) (hd : o.dst = none) (c c' : Array Value) (g : Nat) (hg : g = w0.heap.size)
    (hp : a.eval p = .pointer (some ⟨g, 0, none⟩)) (hx : a.eval x = .agg c') (hw : w = w0.alloc (.cells c t)) (hi : (Tryd.prog.info? t).map (·.size) = some c'.size) (hs : c.size = c'.size) (h1 : c'.all (·.oneCell') = true)
    (h : wpList Tryd.prog ops Q rest a (w0.alloc (.cells c' t))) : wpList Tryd.prog ops Q (o :: rest) a w := by
  refine wpList_plain hgd fun K hK => ?_
  have hr := run_storeAt_new (P := Tryd.prog) w0 t c c' hi hs h1
  unfold Oper.wp execOp
  subst hw hg
  simp only [ho, Sem.run_bind, hp, hx, hr, Result.andThen_ok, Sem.run_pure]
  show K (a.put o.dst undef) _
  rw [hd]
  exact hK _ _ h
/-- An aggregate, built out of its parts. -/
theorem wpList_build {ops : Array Oper} {rest : List Oper} {o : Oper} {a : Act} {Q : Exit → Act → World → Prop} {w : World} (hgd : o.guard = none) (t : TypeId) (fs : Array (Nat × Operand)) (ho : o.op = .build t fs) (parts : Array (Nat × Value)) (c : Array Value)
    (hp : fs.map (fun p => (p.1, a.eval p.2)) = parts) (hb : Tryd.prog.built t parts.toList = some c) (h : wpList Tryd.prog ops Q rest (a.put o.dst (.agg c)) w) : wpList Tryd.prog ops Q (o :: rest) a w := by
  refine wpList_plain hgd fun K hK => ?_
  have hr := run_build (P := Tryd.prog) w t parts c hb
  unfold Oper.wp execOp
  subst hp
  simp only [ho, Sem.run_bind, hr, Result.andThen_ok, Sem.run_pure]
  exact hK _ _ h
end Go.Proofs.YtfcdocgjmgpmkaaDoor
