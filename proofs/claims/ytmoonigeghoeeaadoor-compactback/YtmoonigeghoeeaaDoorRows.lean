/-
  NARROWER THAN 'FOR EVERY INPUT', by the rows' own cells (each row's printed sentence says how): CompactAll: loops, laid · CompactBack: loops, laid · CompactNumbers: laid · CompactOne: laid · CompactInts: laid.
  DERIVED. THE GIVEN ROWS OF THIS SEAT. 5 by the template 'for every input the law returns true; each argument reads behind the call as it read before'; 0 by the template 'total and deterministic' (their statements: YtmoonigeghoeeaaDoorTotals.lean).
  GIVEN WITH THE SEED: the statements are not yours to turn. If you find one false, say at which input.
  Laid BY PROGRAM, IN A SANDBOX (cutbox-rows.mjs): the forced cells as the released guide's own fill.sh prints them over the translation 29cb92510bd39435… (all of the seat's roots in one cut). By AI agents, Wed Nov 11 2026. No macro, syntax, notation, axiom, sorry.
-/
import Derived.Test.YtmoonigeghoeeaaDoorChecked
import GoSem.Claim
import GoSem.ClaimJoined
import GoSem.ClaimMapViews
import Derived.JoinedTies
import Derived.KernelRfl
namespace Go.Proofs.YtmoonigeghoeeaaDoor
/- THE CELL 'sum', in the pinned program and in every row, IS THE sha256 OF THE DUMP (.gsa) THAT YtmoonigeghoeeaaDoorProg.lean LOADS. Nothing in Lean hashes anything: it is a label: what it is worth is what the hold of that sum in a sandbox is worth. -/
noncomputable def Tryd.pinned : Pinned := { name := "ytmoonigeghoeeaadoor", sum := "29cb92510bd394353e583d837a6029dfd4792587e3e09fd376416a168c6fd168", checked := Tryd.checked }
namespace Rows
def none {H : Type} : Left H := { results := [], args := [] }

/- WHAT THE LISTED PACKAGE-LEVEL VARIABLES READ AS WHEN THE CALL BEGINS. Each datum BY PROGRAM (the guide's laid-datum.mjs) off the statement by which the dump's own 'gosem.cut.vars' lays the variable. In a bare row this is a premise. The card (YtmoonigeghoeeaaDoorCards.lean) ties it to the program's text. -/
def laid_relict_compact_spans {H : Type} : DataW H := .agg [.agg [.lit (.int .i64 0), .lit (.int .i64 0), .lit (.int .i64 0), .lit (.int .i64 268435455)], .agg [.lit (.int .i64 1), .lit (.int .i64 1), .lit (.int .i64 (-576460752303423488)), .lit (.int .i64 576460752303423487)], .agg [.lit (.int .i64 2), .lit (.int .i64 6), .lit (.int .i64 0), .lit (.int .i64 268435455)]]

/-- 'relictlaw06.CompactAll': WHATEVER THE INPUT: true; the input reads as it did. -/
def compactAllSpec : ChangeSpec := { name := "compactAll", fn := fun _ => fun
  | [d1, d2, d3] => { results := [.lit (.bool true)], args := [d1, d2, d3] }
  | _ => none }
def compactAllRow : OpenClaim := { program := "ytmoonigeghoeeaadoor", sum := "29cb92510bd394353e583d837a6029dfd4792587e3e09fd376416a168c6fd168", func := "relict/relictlaw06.CompactAll", spec := "compactAll", recurses := true, named := ["relict/compact.spans"], loops := true, apart := false, laid := [("relict/compact.spans", laid_relict_compact_spans)] }
def CompactAllSaid : Prop := compactAllRow.holds Tryd.pinned (OpenSpec.ofChange compactAllSpec)

/-- ITS FALSE NEIGHBOUR: 'it returns false'. Refute it at one input. -/
def compactAllWrong : ChangeSpec := { name := "compactAll", fn := fun _ => fun
  | [d1, d2, d3] => { results := [.lit (.bool false)], args := [d1, d2, d3] }
  | _ => none }
def CompactAllWrongFalsely : Prop := compactAllRow.holds Tryd.pinned (OpenSpec.ofChange compactAllWrong)

/-- 'relictlaw06.CompactBack': WHATEVER THE INPUT: true; the input reads as it did. -/
def compactBackSpec : ChangeSpec := { name := "compactBack", fn := fun _ => fun
  | [d1, d2, d3] => { results := [.lit (.bool true)], args := [d1, d2, d3] }
  | _ => none }
def compactBackRow : OpenClaim := { program := "ytmoonigeghoeeaadoor", sum := "29cb92510bd394353e583d837a6029dfd4792587e3e09fd376416a168c6fd168", func := "relict/relictlaw06.CompactBack", spec := "compactBack", recurses := true, named := ["relict/compact.spans"], loops := true, apart := false, laid := [("relict/compact.spans", laid_relict_compact_spans)] }
def CompactBackSaid : Prop := compactBackRow.holds Tryd.pinned (OpenSpec.ofChange compactBackSpec)

/-- ITS FALSE NEIGHBOUR: 'it returns false'. Refute it at one input. -/
def compactBackWrong : ChangeSpec := { name := "compactBack", fn := fun _ => fun
  | [d1, d2, d3] => { results := [.lit (.bool false)], args := [d1, d2, d3] }
  | _ => none }
def CompactBackWrongFalsely : Prop := compactBackRow.holds Tryd.pinned (OpenSpec.ofChange compactBackWrong)

/-- 'relictlaw06.CompactNumbers': WHATEVER THE INPUT: true; the input reads as it did. -/
def compactNumbersSpec : ChangeSpec := { name := "compactNumbers", fn := fun _ => fun
  | [d1, d2, d3] => { results := [.lit (.bool true)], args := [d1, d2, d3] }
  | _ => none }
def compactNumbersRow : OpenClaim := { program := "ytmoonigeghoeeaadoor", sum := "29cb92510bd394353e583d837a6029dfd4792587e3e09fd376416a168c6fd168", func := "relict/relictlaw06.CompactNumbers", spec := "compactNumbers", recurses := true, named := ["relict/compact.spans"], apart := false, laid := [("relict/compact.spans", laid_relict_compact_spans)] }
def CompactNumbersSaid : Prop := compactNumbersRow.holds Tryd.pinned (OpenSpec.ofChange compactNumbersSpec)

/-- ITS FALSE NEIGHBOUR: 'it returns false'. Refute it at one input. -/
def compactNumbersWrong : ChangeSpec := { name := "compactNumbers", fn := fun _ => fun
  | [d1, d2, d3] => { results := [.lit (.bool false)], args := [d1, d2, d3] }
  | _ => none }
def CompactNumbersWrongFalsely : Prop := compactNumbersRow.holds Tryd.pinned (OpenSpec.ofChange compactNumbersWrong)

/-- 'relictlaw06.CompactOne': WHATEVER THE INPUT: true; the input reads as it did. -/
def compactOneSpec : ChangeSpec := { name := "compactOne", fn := fun _ => fun
  | [d] => { results := [.lit (.bool true)], args := [d] }
  | _ => none }
def compactOneRow : OpenClaim := { program := "ytmoonigeghoeeaadoor", sum := "29cb92510bd394353e583d837a6029dfd4792587e3e09fd376416a168c6fd168", func := "relict/relictlaw06.CompactOne", spec := "compactOne", recurses := true, named := ["relict/compact.spans"], apart := false, laid := [("relict/compact.spans", laid_relict_compact_spans)] }
def CompactOneSaid : Prop := compactOneRow.holds Tryd.pinned (OpenSpec.ofChange compactOneSpec)

/-- ITS FALSE NEIGHBOUR: 'it returns false'. Refute it at one input. -/
def compactOneWrong : ChangeSpec := { name := "compactOne", fn := fun _ => fun
  | [d] => { results := [.lit (.bool false)], args := [d] }
  | _ => none }
def CompactOneWrongFalsely : Prop := compactOneRow.holds Tryd.pinned (OpenSpec.ofChange compactOneWrong)

/-- 'relictlaw06.CompactInts': WHATEVER THE INPUT: true; the input reads as it did. -/
def compactIntsSpec : ChangeSpec := { name := "compactInts", fn := fun _ => fun
  | [d1, d2, d3] => { results := [.lit (.bool true)], args := [d1, d2, d3] }
  | _ => none }
def compactIntsRow : OpenClaim := { program := "ytmoonigeghoeeaadoor", sum := "29cb92510bd394353e583d837a6029dfd4792587e3e09fd376416a168c6fd168", func := "relict/relictlaw06.CompactInts", spec := "compactInts", recurses := true, named := ["relict/compact.spans"], apart := false, laid := [("relict/compact.spans", laid_relict_compact_spans)] }
def CompactIntsSaid : Prop := compactIntsRow.holds Tryd.pinned (OpenSpec.ofChange compactIntsSpec)

/-- ITS FALSE NEIGHBOUR: 'it returns false'. Refute it at one input. -/
def compactIntsWrong : ChangeSpec := { name := "compactInts", fn := fun _ => fun
  | [d1, d2, d3] => { results := [.lit (.bool false)], args := [d1, d2, d3] }
  | _ => none }
def CompactIntsWrongFalsely : Prop := compactIntsRow.holds Tryd.pinned (OpenSpec.ofChange compactIntsWrong)

/- THE SECOND FORM. 'bulk': how many values and letters a reading holds, each counted each time it is reached (what is shared counts as often as it is met; a slice's spare places count too). A statement '..UptoSaid' is the law's where the arguments, and the package variables that the reading takes, are together of bulk at most 1048576: NARROWER than '..Said'. Prove '..Said' where nothing that the law and all that it calls make is longer than what came in: it says more and counts as full. Else prove '..UptoSaid'. A law counts once. -/
mutual
def uptoBulk {H : Type} : DataW H → Nat
  | .lit (.string bytes) => bytes.length + 1
  | .lit _ => 1
  | .nil => 1
  | .ptr d => uptoBulk d + 1
  | .slice elems spare => uptoBulkAll elems + uptoBulkAll spare + 1
  | .agg parts => uptoBulkAll parts + 1
  | .iface _ d => uptoBulk d + 1
  | .map entries => uptoBulkEntries entries + 1
  | .held _ => 1
def uptoBulkAll {H : Type} : List (DataW H) → Nat
  | [] => 0
  | d :: r => uptoBulk d + uptoBulkAll r
def uptoBulkEntries {H : Type} : List (Lit × DataW H) → Nat
  | [] => 0
  | x :: r => uptoBulkEntry x + uptoBulkEntries r
def uptoBulkEntry {H : Type} : Lit × DataW H → Nat
  | (.string bytes, d) => bytes.length + uptoBulk d + 1
  | (_, d) => uptoBulk d + 1
 end
def uptoSmall : (H : Type) → List (DataW H) → Bool := fun _ ds => decide (uptoBulkAll ds ≤ 1048576)
def OpenSpec.upto (s : _root_.Go.ChangeSpec) : _root_.Go.OpenSpec := { _root_.Go.OpenSpec.ofChange s with cond := some uptoSmall }

/-- 'relictlaw06.CompactAll', WHERE WHAT IT READS IS OF BULK AT MOST 1048576: true; the input reads as it did. -/
def compactAllUptoRow : OpenClaim := { program := "ytmoonigeghoeeaadoor", sum := "29cb92510bd394353e583d837a6029dfd4792587e3e09fd376416a168c6fd168", func := "relict/relictlaw06.CompactAll", spec := "compactAll", recurses := true, named := ["relict/compact.spans"], loops := true, apart := false, laid := [("relict/compact.spans", laid_relict_compact_spans)], narrowed := true }
def CompactAllUptoSaid : Prop := compactAllUptoRow.holds Tryd.pinned (OpenSpec.upto compactAllSpec)

/-- 'relictlaw06.CompactBack', WHERE WHAT IT READS IS OF BULK AT MOST 1048576: true; the input reads as it did. -/
def compactBackUptoRow : OpenClaim := { program := "ytmoonigeghoeeaadoor", sum := "29cb92510bd394353e583d837a6029dfd4792587e3e09fd376416a168c6fd168", func := "relict/relictlaw06.CompactBack", spec := "compactBack", recurses := true, named := ["relict/compact.spans"], loops := true, apart := false, laid := [("relict/compact.spans", laid_relict_compact_spans)], narrowed := true }
def CompactBackUptoSaid : Prop := compactBackUptoRow.holds Tryd.pinned (OpenSpec.upto compactBackSpec)

/-- 'relictlaw06.CompactNumbers', WHERE WHAT IT READS IS OF BULK AT MOST 1048576: true; the input reads as it did. -/
def compactNumbersUptoRow : OpenClaim := { program := "ytmoonigeghoeeaadoor", sum := "29cb92510bd394353e583d837a6029dfd4792587e3e09fd376416a168c6fd168", func := "relict/relictlaw06.CompactNumbers", spec := "compactNumbers", recurses := true, named := ["relict/compact.spans"], apart := false, laid := [("relict/compact.spans", laid_relict_compact_spans)], narrowed := true }
def CompactNumbersUptoSaid : Prop := compactNumbersUptoRow.holds Tryd.pinned (OpenSpec.upto compactNumbersSpec)

/-- 'relictlaw06.CompactOne', WHERE WHAT IT READS IS OF BULK AT MOST 1048576: true; the input reads as it did. -/
def compactOneUptoRow : OpenClaim := { program := "ytmoonigeghoeeaadoor", sum := "29cb92510bd394353e583d837a6029dfd4792587e3e09fd376416a168c6fd168", func := "relict/relictlaw06.CompactOne", spec := "compactOne", recurses := true, named := ["relict/compact.spans"], apart := false, laid := [("relict/compact.spans", laid_relict_compact_spans)], narrowed := true }
def CompactOneUptoSaid : Prop := compactOneUptoRow.holds Tryd.pinned (OpenSpec.upto compactOneSpec)

/-- 'relictlaw06.CompactInts', WHERE WHAT IT READS IS OF BULK AT MOST 1048576: true; the input reads as it did. -/
def compactIntsUptoRow : OpenClaim := { program := "ytmoonigeghoeeaadoor", sum := "29cb92510bd394353e583d837a6029dfd4792587e3e09fd376416a168c6fd168", func := "relict/relictlaw06.CompactInts", spec := "compactInts", recurses := true, named := ["relict/compact.spans"], apart := false, laid := [("relict/compact.spans", laid_relict_compact_spans)], narrowed := true }
def CompactIntsUptoSaid : Prop := compactIntsUptoRow.holds Tryd.pinned (OpenSpec.upto compactIntsSpec)

end Rows
end Go.Proofs.YtmoonigeghoeeaaDoor
