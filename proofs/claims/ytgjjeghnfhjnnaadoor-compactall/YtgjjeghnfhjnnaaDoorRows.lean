/-
  NARROWER THAN 'FOR EVERY INPUT', by the rows' own cells (each row's printed sentence says how): CompactAll: loops, laid · OpsPairs: laid · CodeOne: laid · CodeLabels: laid · CodeWrong: laid.
  DERIVED. THE GIVEN ROWS OF THIS SEAT. 5 by the template 'for every input the law returns true; each argument reads behind the call as it read before'; 0 by the template 'total and deterministic' (their statements: YtgjjeghnfhjnnaaDoorTotals.lean).
  GIVEN WITH THE SEED: the statements are not yours to turn. If you find one false, say at which input.
  Laid BY PROGRAM, IN A SANDBOX (cutbox-rows.mjs): the forced cells as the released guide's own fill.sh prints them over the translation f560c0954889488d… (all of the seat's roots in one cut). By AI agents, Wed Nov 11 2026. No macro, syntax, notation, axiom, sorry.
-/
import Derived.Test.YtgjjeghnfhjnnaaDoorChecked
import GoSem.Claim
import GoSem.ClaimJoined
import GoSem.ClaimMapViews
import Derived.JoinedTies
import Derived.KernelRfl
namespace Go.Proofs.YtgjjeghnfhjnnaaDoor
/- THE CELL 'sum', in the pinned program and in every row, IS THE sha256 OF THE DUMP (.gsa) THAT YtgjjeghnfhjnnaaDoorProg.lean LOADS. Nothing in Lean hashes anything: it is a label: what it is worth is what the hold of that sum in a sandbox is worth. -/
noncomputable def Tryd.pinned : Pinned := { name := "ytgjjeghnfhjnnaadoor", sum := "f560c0954889488db5b85910e17abad7b2c17f3caf91bece4405bf3ed7126144", checked := Tryd.checked }
namespace Rows
def none {H : Type} : Left H := { results := [], args := [] }

/- WHAT THE LISTED PACKAGE-LEVEL VARIABLES READ AS WHEN THE CALL BEGINS. Each datum BY PROGRAM (the guide's laid-datum.mjs) off the statement by which the dump's own 'gosem.cut.vars' lays the variable. In a bare row this is a premise. The card (YtgjjeghnfhjnnaaDoorCards.lean) ties it to the program's text. -/
def laid_relict_compact_spans {H : Type} : DataW H := .agg [.agg [.lit (.int .i64 0), .lit (.int .i64 0), .lit (.int .i64 0), .lit (.int .i64 268435455)], .agg [.lit (.int .i64 1), .lit (.int .i64 1), .lit (.int .i64 (-576460752303423488)), .lit (.int .i64 576460752303423487)], .agg [.lit (.int .i64 2), .lit (.int .i64 6), .lit (.int .i64 0), .lit (.int .i64 268435455)]]
def laid_relict_ops_names {H : Type} : DataW H := .agg [.lit (.string []), .lit (.string [108, 97, 98, 101, 108]), .lit (.string [102, 117, 110, 99, 95, 105, 110, 102, 111]), .lit (.string [101, 110, 100]), .lit (.string [109, 111, 118, 101]), .lit (.string [106, 117, 109, 112]), .lit (.string [99, 97, 108, 108]), .lit (.string [99, 97, 108, 108, 95, 111, 110, 108, 121]), .lit (.string [99, 97, 108, 108, 95, 108, 97, 115, 116]), .lit (.string [99, 97, 108, 108, 95, 101, 120, 116]), .lit (.string [99, 97, 108, 108, 95, 102, 117, 110]), .lit (.string [114, 101, 116, 117, 114, 110]), .lit (.string [97, 108, 108, 111, 99, 97, 116, 101]), .lit (.string [100, 101, 97, 108, 108, 111, 99, 97, 116, 101]), .lit (.string [116, 114, 105, 109]), .lit (.string [105, 110, 105, 116]), .lit (.string [116, 101, 115, 116, 95, 104, 101, 97, 112]), .lit (.string [112, 117, 116, 95, 108, 105, 115, 116]), .lit (.string [112, 117, 116, 95, 116, 117, 112, 108, 101]), .lit (.string [103, 101, 116, 95, 108, 105, 115, 116]), .lit (.string [103, 101, 116, 95, 101, 108, 101, 109, 101, 110, 116]), .lit (.string [105, 115, 95, 105, 110, 116]), .lit (.string [105, 115, 95, 97, 116, 111, 109]), .lit (.string [105, 115, 95, 110, 105, 108]), .lit (.string [105, 115, 95, 99, 111, 110, 115]), .lit (.string [105, 115, 95, 116, 117, 112, 108, 101]), .lit (.string [105, 115, 95, 98, 105, 110]), .lit (.string [105, 115, 95, 102, 117, 110]), .lit (.string [116, 101, 115, 116, 95, 97, 114, 105, 116, 121]), .lit (.string [105, 115, 95, 108, 116]), .lit (.string [105, 115, 95, 103, 101]), .lit (.string [105, 115, 95, 101, 113]), .lit (.string [105, 115, 95, 110, 101]), .lit (.string [115, 101, 108, 101, 99, 116]), .lit (.string [115, 119, 97, 112]), .lit (.string [103, 99, 95, 111, 112]), .lit (.string [98, 105, 102, 49]), .lit (.string [98, 105, 102, 50]), .lit (.string [98, 115, 95, 115, 116, 97, 114, 116]), .lit (.string [98, 115, 95, 105, 110, 116]), .lit (.string [98, 115, 95, 98, 105, 110]), .lit (.string [98, 115, 95, 114, 101, 115, 116]), .lit (.string [98, 115, 95, 116, 97, 105, 108]), .lit (.string [98, 115, 95, 109, 97, 107, 101]), .lit (.string [109, 97, 107, 101, 95, 102, 117, 110]), .lit (.string [116, 114, 121]), .lit (.string [116, 114, 121, 95, 101, 110, 100]), .lit (.string [116, 114, 121, 95, 99, 97, 115, 101]), .lit (.string [114, 97, 105, 115, 101]), .lit (.string [98, 97, 100, 109, 97, 116, 99, 104]), .lit (.string [99, 97, 115, 101, 95, 101, 110, 100]), .lit (.string [105, 102, 95, 101, 110, 100])]

/-- 'relictlaw06.CompactAll': WHATEVER THE INPUT: true; the input reads as it did. -/
def compactAllSpec : ChangeSpec := { name := "compactAll", fn := fun _ => fun
  | [d1, d2, d3] => { results := [.lit (.bool true)], args := [d1, d2, d3] }
  | _ => none }
def compactAllRow : OpenClaim := { program := "ytgjjeghnfhjnnaadoor", sum := "f560c0954889488db5b85910e17abad7b2c17f3caf91bece4405bf3ed7126144", func := "relict/relictlaw06.CompactAll", spec := "compactAll", recurses := true, named := ["relict/compact.spans"], loops := true, apart := false, laid := [("relict/compact.spans", laid_relict_compact_spans)] }
def CompactAllSaid : Prop := compactAllRow.holds Tryd.pinned (OpenSpec.ofChange compactAllSpec)

/-- ITS FALSE NEIGHBOUR: 'it returns false'. Refute it at one input. -/
def compactAllWrong : ChangeSpec := { name := "compactAll", fn := fun _ => fun
  | [d1, d2, d3] => { results := [.lit (.bool false)], args := [d1, d2, d3] }
  | _ => none }
def CompactAllWrongFalsely : Prop := compactAllRow.holds Tryd.pinned (OpenSpec.ofChange compactAllWrong)

/-- 'relictlaw07.OpsPairs': WHATEVER THE INPUT: true; the input reads as it did. -/
def opsPairsSpec : ChangeSpec := { name := "opsPairs", fn := fun _ => fun
  | [d1, d2, d3] => { results := [.lit (.bool true)], args := [d1, d2, d3] }
  | _ => none }
def opsPairsRow : OpenClaim := { program := "ytgjjeghnfhjnnaadoor", sum := "f560c0954889488db5b85910e17abad7b2c17f3caf91bece4405bf3ed7126144", func := "relict/relictlaw07.OpsPairs", spec := "opsPairs", recurses := true, named := ["relict/ops.names"], apart := false, laid := [("relict/ops.names", laid_relict_ops_names)] }
def OpsPairsSaid : Prop := opsPairsRow.holds Tryd.pinned (OpenSpec.ofChange opsPairsSpec)

/-- ITS FALSE NEIGHBOUR: 'it returns false'. Refute it at one input. -/
def opsPairsWrong : ChangeSpec := { name := "opsPairs", fn := fun _ => fun
  | [d1, d2, d3] => { results := [.lit (.bool false)], args := [d1, d2, d3] }
  | _ => none }
def OpsPairsWrongFalsely : Prop := opsPairsRow.holds Tryd.pinned (OpenSpec.ofChange opsPairsWrong)

/-- 'relictlaw08.CodeOne': WHATEVER THE INPUT: true; the input reads as it did. -/
def codeOneSpec : ChangeSpec := { name := "codeOne", fn := fun _ => fun
  | [d] => { results := [.lit (.bool true)], args := [d] }
  | _ => none }
def codeOneRow : OpenClaim := { program := "ytgjjeghnfhjnnaadoor", sum := "f560c0954889488db5b85910e17abad7b2c17f3caf91bece4405bf3ed7126144", func := "relict/relictlaw08.CodeOne", spec := "codeOne", unfollowed := true, recurses := true, named := ["relict/compact.spans", "relict/ops.names"], apart := false, laid := [("relict/ops.names", laid_relict_ops_names), ("relict/compact.spans", laid_relict_compact_spans)] }
def CodeOneSaid : Prop := codeOneRow.holds Tryd.pinned (OpenSpec.ofChange codeOneSpec)

/-- ITS FALSE NEIGHBOUR: 'it returns false'. Refute it at one input. -/
def codeOneWrong : ChangeSpec := { name := "codeOne", fn := fun _ => fun
  | [d] => { results := [.lit (.bool false)], args := [d] }
  | _ => none }
def CodeOneWrongFalsely : Prop := codeOneRow.holds Tryd.pinned (OpenSpec.ofChange codeOneWrong)

/-- 'relictlaw08.CodeLabels': WHATEVER THE INPUT: true; the input reads as it did. -/
def codeLabelsSpec : ChangeSpec := { name := "codeLabels", fn := fun _ => fun
  | [d1, d2, d3] => { results := [.lit (.bool true)], args := [d1, d2, d3] }
  | _ => none }
def codeLabelsRow : OpenClaim := { program := "ytgjjeghnfhjnnaadoor", sum := "f560c0954889488db5b85910e17abad7b2c17f3caf91bece4405bf3ed7126144", func := "relict/relictlaw08.CodeLabels", spec := "codeLabels", unfollowed := true, recurses := true, named := ["relict/compact.spans", "relict/ops.names"], apart := false, laid := [("relict/ops.names", laid_relict_ops_names), ("relict/compact.spans", laid_relict_compact_spans)] }
def CodeLabelsSaid : Prop := codeLabelsRow.holds Tryd.pinned (OpenSpec.ofChange codeLabelsSpec)

/-- ITS FALSE NEIGHBOUR: 'it returns false'. Refute it at one input. -/
def codeLabelsWrong : ChangeSpec := { name := "codeLabels", fn := fun _ => fun
  | [d1, d2, d3] => { results := [.lit (.bool false)], args := [d1, d2, d3] }
  | _ => none }
def CodeLabelsWrongFalsely : Prop := codeLabelsRow.holds Tryd.pinned (OpenSpec.ofChange codeLabelsWrong)

/-- 'relictlaw08.CodeWrong': WHATEVER THE INPUT: true; the input reads as it did. -/
def codeWrongSpec : ChangeSpec := { name := "codeWrong", fn := fun _ => fun
  | [d1, d2] => { results := [.lit (.bool true)], args := [d1, d2] }
  | _ => none }
def codeWrongRow : OpenClaim := { program := "ytgjjeghnfhjnnaadoor", sum := "f560c0954889488db5b85910e17abad7b2c17f3caf91bece4405bf3ed7126144", func := "relict/relictlaw08.CodeWrong", spec := "codeWrong", unfollowed := true, recurses := true, named := ["relict/ops.names", "relict/compact.spans"], apart := false, laid := [("relict/ops.names", laid_relict_ops_names), ("relict/compact.spans", laid_relict_compact_spans)] }
def CodeWrongSaid : Prop := codeWrongRow.holds Tryd.pinned (OpenSpec.ofChange codeWrongSpec)

/-- ITS FALSE NEIGHBOUR: 'it returns false'. Refute it at one input. -/
def codeWrongWrong : ChangeSpec := { name := "codeWrong", fn := fun _ => fun
  | [d1, d2] => { results := [.lit (.bool false)], args := [d1, d2] }
  | _ => none }
def CodeWrongWrongFalsely : Prop := codeWrongRow.holds Tryd.pinned (OpenSpec.ofChange codeWrongWrong)

/- THE SECOND FORM. 'bulk': how many values and letters a reading holds, each counted each time it is reached (what is shared counts as often as it is met; a slice's spare places count too). A statement '..UptoSaid' is the law's where the arguments, and the package variables that the reading takes, are together of bulk at most 1048576: NARROWER than '..Said'. Prove '..Said' where nothing that the law and all that it calls make is longer than what came in: it says more and counts as full. Else prove '..UptoSaid'. A law counts once. -/
mutual
def uptoBulk {H : Type} : DataW H → Nat
  | .lit (.string bytes) => bytes.length + 1
  | .lit _ => 1
  | .nil => 1
  | .ptr d => uptoBulk d + 1
  | .slice elems spare => uptoBulkAll elems + uptoBulkAll spare + 1
  | .agg parts => uptoBulkAll parts + 1
  | .iface _ d => uptoBulk d + 1
  | .map entries => uptoBulkEntries entries + 1
  | .held _ => 1
def uptoBulkAll {H : Type} : List (DataW H) → Nat
  | [] => 0
  | d :: r => uptoBulk d + uptoBulkAll r
def uptoBulkEntries {H : Type} : List (Lit × DataW H) → Nat
  | [] => 0
  | x :: r => uptoBulkEntry x + uptoBulkEntries r
def uptoBulkEntry {H : Type} : Lit × DataW H → Nat
  | (.string bytes, d) => bytes.length + uptoBulk d + 1
  | (_, d) => uptoBulk d + 1
 end
def uptoSmall : (H : Type) → List (DataW H) → Bool := fun _ ds => decide (uptoBulkAll ds ≤ 1048576)
def OpenSpec.upto (s : _root_.Go.ChangeSpec) : _root_.Go.OpenSpec := { _root_.Go.OpenSpec.ofChange s with cond := some uptoSmall }

/-- 'relictlaw06.CompactAll', WHERE WHAT IT READS IS OF BULK AT MOST 1048576: true; the input reads as it did. -/
def compactAllUptoRow : OpenClaim := { program := "ytgjjeghnfhjnnaadoor", sum := "f560c0954889488db5b85910e17abad7b2c17f3caf91bece4405bf3ed7126144", func := "relict/relictlaw06.CompactAll", spec := "compactAll", recurses := true, named := ["relict/compact.spans"], loops := true, apart := false, laid := [("relict/compact.spans", laid_relict_compact_spans)], narrowed := true }
def CompactAllUptoSaid : Prop := compactAllUptoRow.holds Tryd.pinned (OpenSpec.upto compactAllSpec)

/-- 'relictlaw07.OpsPairs', WHERE WHAT IT READS IS OF BULK AT MOST 1048576: true; the input reads as it did. -/
def opsPairsUptoRow : OpenClaim := { program := "ytgjjeghnfhjnnaadoor", sum := "f560c0954889488db5b85910e17abad7b2c17f3caf91bece4405bf3ed7126144", func := "relict/relictlaw07.OpsPairs", spec := "opsPairs", recurses := true, named := ["relict/ops.names"], apart := false, laid := [("relict/ops.names", laid_relict_ops_names)], narrowed := true }
def OpsPairsUptoSaid : Prop := opsPairsUptoRow.holds Tryd.pinned (OpenSpec.upto opsPairsSpec)

/-- 'relictlaw08.CodeOne', WHERE WHAT IT READS IS OF BULK AT MOST 1048576: true; the input reads as it did. -/
def codeOneUptoRow : OpenClaim := { program := "ytgjjeghnfhjnnaadoor", sum := "f560c0954889488db5b85910e17abad7b2c17f3caf91bece4405bf3ed7126144", func := "relict/relictlaw08.CodeOne", spec := "codeOne", unfollowed := true, recurses := true, named := ["relict/compact.spans", "relict/ops.names"], apart := false, laid := [("relict/ops.names", laid_relict_ops_names), ("relict/compact.spans", laid_relict_compact_spans)], narrowed := true }
def CodeOneUptoSaid : Prop := codeOneUptoRow.holds Tryd.pinned (OpenSpec.upto codeOneSpec)

/-- 'relictlaw08.CodeLabels', WHERE WHAT IT READS IS OF BULK AT MOST 1048576: true; the input reads as it did. -/
def codeLabelsUptoRow : OpenClaim := { program := "ytgjjeghnfhjnnaadoor", sum := "f560c0954889488db5b85910e17abad7b2c17f3caf91bece4405bf3ed7126144", func := "relict/relictlaw08.CodeLabels", spec := "codeLabels", unfollowed := true, recurses := true, named := ["relict/compact.spans", "relict/ops.names"], apart := false, laid := [("relict/ops.names", laid_relict_ops_names), ("relict/compact.spans", laid_relict_compact_spans)], narrowed := true }
def CodeLabelsUptoSaid : Prop := codeLabelsUptoRow.holds Tryd.pinned (OpenSpec.upto codeLabelsSpec)

/-- 'relictlaw08.CodeWrong', WHERE WHAT IT READS IS OF BULK AT MOST 1048576: true; the input reads as it did. -/
def codeWrongUptoRow : OpenClaim := { program := "ytgjjeghnfhjnnaadoor", sum := "f560c0954889488db5b85910e17abad7b2c17f3caf91bece4405bf3ed7126144", func := "relict/relictlaw08.CodeWrong", spec := "codeWrong", unfollowed := true, recurses := true, named := ["relict/ops.names", "relict/compact.spans"], apart := false, laid := [("relict/ops.names", laid_relict_ops_names), ("relict/compact.spans", laid_relict_compact_spans)], narrowed := true }
def CodeWrongUptoSaid : Prop := codeWrongUptoRow.holds Tryd.pinned (OpenSpec.upto codeWrongSpec)

end Rows
end Go.Proofs.YtgjjeghnfhjnnaaDoor
