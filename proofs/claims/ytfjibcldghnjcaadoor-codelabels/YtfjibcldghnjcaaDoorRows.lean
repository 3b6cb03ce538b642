/-
  NARROWER THAN 'FOR EVERY INPUT', by the rows' own cells (each row's printed sentence says how): CodeLabels: laid.
  DERIVED. THE GIVEN ROWS OF THIS SEAT. 1 by the template 'for every input the law returns true; each argument reads behind the call as it read before'; 0 by the template 'total and deterministic' (their statements: YtfjibcldghnjcaaDoorTotals.lean).
  GIVEN WITH THE SEED: the statements are not yours to turn. If you find one false, say at which input.
  Laid BY PROGRAM, IN A SANDBOX (cutbox-rows.mjs): the forced cells as the released guide's own fill.sh prints them over the translation 49f4ad0943388fe9… (all of the seat's roots in one cut). By AI agents, Wed Nov 11 2026. No macro, syntax, notation, axiom, sorry.
-/
import Derived.Test.YtfjibcldghnjcaaDoorChecked
import GoSem.Claim
import GoSem.ClaimJoined
import GoSem.ClaimMapViews
import Derived.JoinedTies
import Derived.KernelRfl
namespace Go.Proofs.YtfjibcldghnjcaaDoor
/- THE CELL 'sum', in the pinned program and in every row, IS THE sha256 OF THE DUMP (.gsa) THAT YtfjibcldghnjcaaDoorProg.lean LOADS. Nothing in Lean hashes anything: it is a label: what it is worth is what the hold of that sum in a sandbox is worth. -/
noncomputable def Tryd.pinned : Pinned := { name := "ytfjibcldghnjcaadoor", sum := "49f4ad0943388fe9fa4d0ec86c6f4877d1b5afa659e73b42e45b764ad5e1a251", checked := Tryd.checked }
namespace Rows
def none {H : Type} : Left H := { results := [], args := [] }

/- WHAT THE LISTED PACKAGE-LEVEL VARIABLES READ AS WHEN THE CALL BEGINS. Each datum BY PROGRAM (the guide's laid-datum.mjs) off the statement by which the dump's own 'gosem.cut.vars' lays the variable. In a bare row this is a premise. The card (YtfjibcldghnjcaaDoorCards.lean) ties it to the program's text. -/
def laid_relict_ops_names {H : Type} : DataW H := .agg [.lit (.string []), .lit (.string [108, 97, 98, 101, 108]), .lit (.string [102, 117, 110, 99, 95, 105, 110, 102, 111]), .lit (.string [101, 110, 100]), .lit (.string [109, 111, 118, 101]), .lit (.string [106, 117, 109, 112]), .lit (.string [99, 97, 108, 108]), .lit (.string [99, 97, 108, 108, 95, 111, 110, 108, 121]), .lit (.string [99, 97, 108, 108, 95, 108, 97, 115, 116]), .lit (.string [99, 97, 108, 108, 95, 101, 120, 116]), .lit (.string [99, 97, 108, 108, 95, 102, 117, 110]), .lit (.string [114, 101, 116, 117, 114, 110]), .lit (.string [97, 108, 108, 111, 99, 97, 116, 101]), .lit (.string [100, 101, 97, 108, 108, 111, 99, 97, 116, 101]), .lit (.string [116, 114, 105, 109]), .lit (.string [105, 110, 105, 116]), .lit (.string [116, 101, 115, 116, 95, 104, 101, 97, 112]), .lit (.string [112, 117, 116, 95, 108, 105, 115, 116]), .lit (.string [112, 117, 116, 95, 116, 117, 112, 108, 101]), .lit (.string [103, 101, 116, 95, 108, 105, 115, 116]), .lit (.string [103, 101, 116, 95, 101, 108, 101, 109, 101, 110, 116]), .lit (.string [105, 115, 95, 105, 110, 116]), .lit (.string [105, 115, 95, 97, 116, 111, 109]), .lit (.string [105, 115, 95, 110, 105, 108]), .lit (.string [105, 115, 95, 99, 111, 110, 115]), .lit (.string [105, 115, 95, 116, 117, 112, 108, 101]), .lit (.string [105, 115, 95, 98, 105, 110]), .lit (.string [105, 115, 95, 102, 117, 110]), .lit (.string [116, 101, 115, 116, 95, 97, 114, 105, 116, 121]), .lit (.string [105, 115, 95, 108, 116]), .lit (.string [105, 115, 95, 103, 101]), .lit (.string [105, 115, 95, 101, 113]), .lit (.string [105, 115, 95, 110, 101]), .lit (.string [115, 101, 108, 101, 99, 116]), .lit (.string [115, 119, 97, 112]), .lit (.string [103, 99, 95, 111, 112]), .lit (.string [98, 105, 102, 49]), .lit (.string [98, 105, 102, 50]), .lit (.string [98, 115, 95, 115, 116, 97, 114, 116]), .lit (.string [98, 115, 95, 105, 110, 116]), .lit (.string [98, 115, 95, 98, 105, 110]), .lit (.string [98, 115, 95, 114, 101, 115, 116]), .lit (.string [98, 115, 95, 116, 97, 105, 108]), .lit (.string [98, 115, 95, 109, 97, 107, 101]), .lit (.string [109, 97, 107, 101, 95, 102, 117, 110]), .lit (.string [116, 114, 121]), .lit (.string [116, 114, 121, 95, 101, 110, 100]), .lit (.string [116, 114, 121, 95, 99, 97, 115, 101]), .lit (.string [114, 97, 105, 115, 101]), .lit (.string [98, 97, 100, 109, 97, 116, 99, 104]), .lit (.string [99, 97, 115, 101, 95, 101, 110, 100]), .lit (.string [105, 102, 95, 101, 110, 100])]
def laid_relict_compact_spans {H : Type} : DataW H := .agg [.agg [.lit (.int .i64 0), .lit (.int .i64 0), .lit (.int .i64 0), .lit (.int .i64 268435455)], .agg [.lit (.int .i64 1), .lit (.int .i64 1), .lit (.int .i64 (-576460752303423488)), .lit (.int .i64 576460752303423487)], .agg [.lit (.int .i64 2), .lit (.int .i64 6), .lit (.int .i64 0), .lit (.int .i64 268435455)]]

/-- 'relictlaw08.CodeLabels': WHATEVER THE INPUT: true; the input reads as it did. -/
def codeLabelsSpec : ChangeSpec := { name := "codeLabels", fn := fun _ => fun
  | [d1, d2, d3] => { results := [.lit (.bool true)], args := [d1, d2, d3] }
  | _ => none }
def codeLabelsRow : OpenClaim := { program := "ytfjibcldghnjcaadoor", sum := "49f4ad0943388fe9fa4d0ec86c6f4877d1b5afa659e73b42e45b764ad5e1a251", func := "relict/relictlaw08.CodeLabels", spec := "codeLabels", unfollowed := true, recurses := true, named := ["relict/compact.spans", "relict/ops.names"], apart := false, laid := [("relict/ops.names", laid_relict_ops_names), ("relict/compact.spans", laid_relict_compact_spans)] }
def CodeLabelsSaid : Prop := codeLabelsRow.holds Tryd.pinned (OpenSpec.ofChange codeLabelsSpec)

/-- ITS FALSE NEIGHBOUR: 'it returns false'. Refute it at one input. -/
def codeLabelsWrong : ChangeSpec := { name := "codeLabels", fn := fun _ => fun
  | [d1, d2, d3] => { results := [.lit (.bool false)], args := [d1, d2, d3] }
  | _ => none }
def CodeLabelsWrongFalsely : Prop := codeLabelsRow.holds Tryd.pinned (OpenSpec.ofChange codeLabelsWrong)

/- THE SECOND FORM. 'bulk': how many values and letters a reading holds, each counted each time it is reached (what is shared counts as often as it is met; a slice's spare places count too). A statement '..UptoSaid' is the law's where the arguments, and the package variables that the reading takes, are together of bulk at most 1048576: NARROWER than '..Said'. Prove '..Said' where nothing that the law and all that it calls make is longer than what came in: it says more and counts as full. Else prove '..UptoSaid'. A law counts once. -/
mutual
def uptoBulk {H : Type} : DataW H → Nat
  | .lit (.string bytes) => bytes.length + 1
  | .lit _ => 1
  | .nil => 1
  | .ptr d => uptoBulk d + 1
  | .slice elems spare => uptoBulkAll elems + uptoBulkAll spare + 1
  | .agg parts => uptoBulkAll parts + 1
  | .iface _ d => uptoBulk d + 1
  | .map entries => uptoBulkEntries entries + 1
  | .held _ => 1
def uptoBulkAll {H : Type} : List (DataW H) → Nat
  | [] => 0
  | d :: r => uptoBulk d + uptoBulkAll r
def uptoBulkEntries {H : Type} : List (Lit × DataW H) → Nat
  | [] => 0
  | x :: r => uptoBulkEntry x + uptoBulkEntries r
def uptoBulkEntry {H : Type} : Lit × DataW H → Nat
  | (.string bytes, d) => bytes.length + uptoBulk d + 1
  | (_, d) => uptoBulk d + 1
 end
def uptoSmall : (H : Type) → List (DataW H) → Bool := fun _ ds => decide (uptoBulkAll ds ≤ 1048576)
def OpenSpec.upto (s : _root_.Go.ChangeSpec) : _root_.Go.OpenSpec := { _root_.Go.OpenSpec.ofChange s with cond := some uptoSmall }

/-- 'relictlaw08.CodeLabels', WHERE WHAT IT READS IS OF BULK AT MOST 1048576: true; the input reads as it did. -/
def codeLabelsUptoRow : OpenClaim := { program := "ytfjibcldghnjcaadoor", sum := "49f4ad0943388fe9fa4d0ec86c6f4877d1b5afa659e73b42e45b764ad5e1a251", func := "relict/relictlaw08.CodeLabels", spec := "codeLabels", unfollowed := true, recurses := true, named := ["relict/compact.spans", "relict/ops.names"], apart := false, laid := [("relict/ops.names", laid_relict_ops_names), ("relict/compact.spans", laid_relict_compact_spans)], narrowed := true }
def CodeLabelsUptoSaid : Prop := codeLabelsUptoRow.holds Tryd.pinned (OpenSpec.upto codeLabelsSpec)

end Rows
end Go.Proofs.YtfjibcldghnjcaaDoor
