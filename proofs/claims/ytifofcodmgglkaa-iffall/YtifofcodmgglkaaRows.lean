/-
  No cell of these rows narrows 'for every input' (looked for: loops, veiled, ifaces, maps, wideKeys, modest, calm, conditions, laid).
  DERIVED. THE GIVEN ROWS OF THIS SEAT. 5 by the template 'for every input the law returns true; each argument reads behind the call as it read before'; 0 by the template 'total and deterministic' (their statements: YtifofcodmgglkaaTotals.lean).
  GIVEN WITH THE SEED: the statements are not yours to turn. If you find one false, say at which input.
  Laid BY PROGRAM, IN A SANDBOX (cutbox-rows.mjs): the forced cells as the released guide's own fill.sh prints them over the translation bbc5e8c7258d6339… (all of the seat's roots in one cut). By AI agents, Wed Nov 11 2026. No macro, syntax, notation, axiom, sorry.
-/
import Derived.Test.YtifofcodmgglkaaChecked
import GoSem.Claim
import GoSem.ClaimJoined
import GoSem.ClaimMapViews
import Derived.JoinedTies
import Derived.KernelRfl
namespace Go.Proofs.Ytifofcodmgglkaa
/- THE CELL 'sum', in the pinned program and in every row, IS THE sha256 OF THE DUMP (.gsa) THAT YtifofcodmgglkaaProg.lean LOADS. Nothing in Lean hashes anything: it is a label: what it is worth is what the hold of that sum in a sandbox is worth. -/
noncomputable def Try.pinned : Pinned := { name := "ytifofcodmgglkaa", sum := "bbc5e8c7258d6339aa0675365bc66a42abe5d454ba739cb5d9c9f4d16eec1d52", checked := Try.checked }
namespace Rows
def none {H : Type} : Left H := { results := [], args := [] }

/-- 'relictlaw05.IffAll': WHATEVER THE INPUT: true; the input reads as it did. -/
def iffAllSpec : ChangeSpec := { name := "iffAll", fn := fun _ => fun
  | [d1, d2, d3] => { results := [.lit (.bool true)], args := [d1, d2, d3] }
  | _ => none }
def iffAllRow : OpenClaim := { program := "ytifofcodmgglkaa", sum := "bbc5e8c7258d6339aa0675365bc66a42abe5d454ba739cb5d9c9f4d16eec1d52", func := "relict/relictlaw05.IffAll", spec := "iffAll", apart := false }
def IffAllSaid : Prop := iffAllRow.holds Try.pinned (OpenSpec.ofChange iffAllSpec)

/-- ITS FALSE NEIGHBOUR: 'it returns false'. Refute it at one input. -/
def iffAllWrong : ChangeSpec := { name := "iffAll", fn := fun _ => fun
  | [d1, d2, d3] => { results := [.lit (.bool false)], args := [d1, d2, d3] }
  | _ => none }
def IffAllWrongFalsely : Prop := iffAllRow.holds Try.pinned (OpenSpec.ofChange iffAllWrong)

/-- 'relictlaw05.IffBack': WHATEVER THE INPUT: true; the input reads as it did. -/
def iffBackSpec : ChangeSpec := { name := "iffBack", fn := fun _ => fun
  | [d1, d2] => { results := [.lit (.bool true)], args := [d1, d2] }
  | _ => none }
def iffBackRow : OpenClaim := { program := "ytifofcodmgglkaa", sum := "bbc5e8c7258d6339aa0675365bc66a42abe5d454ba739cb5d9c9f4d16eec1d52", func := "relict/relictlaw05.IffBack", spec := "iffBack", apart := false }
def IffBackSaid : Prop := iffBackRow.holds Try.pinned (OpenSpec.ofChange iffBackSpec)

/-- ITS FALSE NEIGHBOUR: 'it returns false'. Refute it at one input. -/
def iffBackWrong : ChangeSpec := { name := "iffBack", fn := fun _ => fun
  | [d1, d2] => { results := [.lit (.bool false)], args := [d1, d2] }
  | _ => none }
def IffBackWrongFalsely : Prop := iffBackRow.holds Try.pinned (OpenSpec.ofChange iffBackWrong)

/-- 'relictlaw05.IffSpoilt': WHATEVER THE INPUT: true; the input reads as it did. -/
def iffSpoiltSpec : ChangeSpec := { name := "iffSpoilt", fn := fun _ => fun
  | [d1, d2, d3] => { results := [.lit (.bool true)], args := [d1, d2, d3] }
  | _ => none }
def iffSpoiltRow : OpenClaim := { program := "ytifofcodmgglkaa", sum := "bbc5e8c7258d6339aa0675365bc66a42abe5d454ba739cb5d9c9f4d16eec1d52", func := "relict/relictlaw05.IffSpoilt", spec := "iffSpoilt", apart := false }
def IffSpoiltSaid : Prop := iffSpoiltRow.holds Try.pinned (OpenSpec.ofChange iffSpoiltSpec)

/-- ITS FALSE NEIGHBOUR: 'it returns false'. Refute it at one input. -/
def iffSpoiltWrong : ChangeSpec := { name := "iffSpoilt", fn := fun _ => fun
  | [d1, d2, d3] => { results := [.lit (.bool false)], args := [d1, d2, d3] }
  | _ => none }
def IffSpoiltWrongFalsely : Prop := iffSpoiltRow.holds Try.pinned (OpenSpec.ofChange iffSpoiltWrong)

/-- 'relictlaw05.IffSizes': WHATEVER THE INPUT: true; the input reads as it did. -/
def iffSizesSpec : ChangeSpec := { name := "iffSizes", fn := fun _ => fun
  | [d1, d2] => { results := [.lit (.bool true)], args := [d1, d2] }
  | _ => none }
def iffSizesRow : OpenClaim := { program := "ytifofcodmgglkaa", sum := "bbc5e8c7258d6339aa0675365bc66a42abe5d454ba739cb5d9c9f4d16eec1d52", func := "relict/relictlaw05.IffSizes", spec := "iffSizes", apart := false }
def IffSizesSaid : Prop := iffSizesRow.holds Try.pinned (OpenSpec.ofChange iffSizesSpec)

/-- ITS FALSE NEIGHBOUR: 'it returns false'. Refute it at one input. -/
def iffSizesWrong : ChangeSpec := { name := "iffSizes", fn := fun _ => fun
  | [d1, d2] => { results := [.lit (.bool false)], args := [d1, d2] }
  | _ => none }
def IffSizesWrongFalsely : Prop := iffSizesRow.holds Try.pinned (OpenSpec.ofChange iffSizesWrong)

/-- 'relictlaw05.IffLengths': WHATEVER THE INPUT: true; the input reads as it did. -/
def iffLengthsSpec : ChangeSpec := { name := "iffLengths", fn := fun _ => fun
  | [d1, d2] => { results := [.lit (.bool true)], args := [d1, d2] }
  | _ => none }
def iffLengthsRow : OpenClaim := { program := "ytifofcodmgglkaa", sum := "bbc5e8c7258d6339aa0675365bc66a42abe5d454ba739cb5d9c9f4d16eec1d52", func := "relict/relictlaw05.IffLengths", spec := "iffLengths", apart := false }
def IffLengthsSaid : Prop := iffLengthsRow.holds Try.pinned (OpenSpec.ofChange iffLengthsSpec)

/-- ITS FALSE NEIGHBOUR: 'it returns false'. Refute it at one input. -/
def iffLengthsWrong : ChangeSpec := { name := "iffLengths", fn := fun _ => fun
  | [d1, d2] => { results := [.lit (.bool false)], args := [d1, d2] }
  | _ => none }
def IffLengthsWrongFalsely : Prop := iffLengthsRow.holds Try.pinned (OpenSpec.ofChange iffLengthsWrong)

/- THE SECOND FORM. 'bulk': how many values and letters a reading holds, each counted each time it is reached (what is shared counts as often as it is met; a slice's spare places count too). A statement '..UptoSaid' is the law's where the arguments, and the package variables that the reading takes, are together of bulk at most 1048576: NARROWER than '..Said'. Prove '..Said' where nothing that the law and all that it calls make is longer than what came in: it says more and counts as full. Else prove '..UptoSaid'. A law counts once. -/
mutual
def uptoBulk {H : Type} : DataW H → Nat
  | .lit (.string bytes) => bytes.length + 1
  | .lit _ => 1
  | .nil => 1
  | .ptr d => uptoBulk d + 1
  | .slice elems spare => uptoBulkAll elems + uptoBulkAll spare + 1
  | .agg parts => uptoBulkAll parts + 1
  | .iface _ d => uptoBulk d + 1
  | .map entries => uptoBulkEntries entries + 1
  | .held _ => 1
def uptoBulkAll {H : Type} : List (DataW H) → Nat
  | [] => 0
  | d :: r => uptoBulk d + uptoBulkAll r
def uptoBulkEntries {H : Type} : List (Lit × DataW H) → Nat
  | [] => 0
  | x :: r => uptoBulkEntry x + uptoBulkEntries r
def uptoBulkEntry {H : Type} : Lit × DataW H → Nat
  | (.string bytes, d) => bytes.length + uptoBulk d + 1
  | (_, d) => uptoBulk d + 1
 end
def uptoSmall : (H : Type) → List (DataW H) → Bool := fun _ ds => decide (uptoBulkAll ds ≤ 1048576)
def OpenSpec.upto (s : _root_.Go.ChangeSpec) : _root_.Go.OpenSpec := { _root_.Go.OpenSpec.ofChange s with cond := some uptoSmall }

/-- 'relictlaw05.IffAll', WHERE WHAT IT READS IS OF BULK AT MOST 1048576: true; the input reads as it did. -/
def iffAllUptoRow : OpenClaim := { program := "ytifofcodmgglkaa", sum := "bbc5e8c7258d6339aa0675365bc66a42abe5d454ba739cb5d9c9f4d16eec1d52", func := "relict/relictlaw05.IffAll", spec := "iffAll", apart := false, narrowed := true }
def IffAllUptoSaid : Prop := iffAllUptoRow.holds Try.pinned (OpenSpec.upto iffAllSpec)

/-- 'relictlaw05.IffBack', WHERE WHAT IT READS IS OF BULK AT MOST 1048576: true; the input reads as it did. -/
def iffBackUptoRow : OpenClaim := { program := "ytifofcodmgglkaa", sum := "bbc5e8c7258d6339aa0675365bc66a42abe5d454ba739cb5d9c9f4d16eec1d52", func := "relict/relictlaw05.IffBack", spec := "iffBack", apart := false, narrowed := true }
def IffBackUptoSaid : Prop := iffBackUptoRow.holds Try.pinned (OpenSpec.upto iffBackSpec)

/-- 'relictlaw05.IffSpoilt', WHERE WHAT IT READS IS OF BULK AT MOST 1048576: true; the input reads as it did. -/
def iffSpoiltUptoRow : OpenClaim := { program := "ytifofcodmgglkaa", sum := "bbc5e8c7258d6339aa0675365bc66a42abe5d454ba739cb5d9c9f4d16eec1d52", func := "relict/relictlaw05.IffSpoilt", spec := "iffSpoilt", apart := false, narrowed := true }
def IffSpoiltUptoSaid : Prop := iffSpoiltUptoRow.holds Try.pinned (OpenSpec.upto iffSpoiltSpec)

/-- 'relictlaw05.IffSizes', WHERE WHAT IT READS IS OF BULK AT MOST 1048576: true; the input reads as it did. -/
def iffSizesUptoRow : OpenClaim := { program := "ytifofcodmgglkaa", sum := "bbc5e8c7258d6339aa0675365bc66a42abe5d454ba739cb5d9c9f4d16eec1d52", func := "relict/relictlaw05.IffSizes", spec := "iffSizes", apart := false, narrowed := true }
def IffSizesUptoSaid : Prop := iffSizesUptoRow.holds Try.pinned (OpenSpec.upto iffSizesSpec)

/-- 'relictlaw05.IffLengths', WHERE WHAT IT READS IS OF BULK AT MOST 1048576: true; the input reads as it did. -/
def iffLengthsUptoRow : OpenClaim := { program := "ytifofcodmgglkaa", sum := "bbc5e8c7258d6339aa0675365bc66a42abe5d454ba739cb5d9c9f4d16eec1d52", func := "relict/relictlaw05.IffLengths", spec := "iffLengths", apart := false, narrowed := true }
def IffLengthsUptoSaid : Prop := iffLengthsUptoRow.holds Try.pinned (OpenSpec.upto iffLengthsSpec)

end Rows
end Go.Proofs.Ytifofcodmgglkaa
