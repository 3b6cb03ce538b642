/-
  NARROWER THAN 'FOR EVERY INPUT', by the rows' own cells (each row's printed sentence says how): TermTexts: laid · ExtAll: loops, laid · ExtBack: loops, laid · ExtOne: laid · ExtNumbers: laid · ExtLong: laid.
  DERIVED. THE GIVEN ROWS OF THIS SEAT. 6 by the template 'for every input the law returns true; each argument reads behind the call as it read before'; 0 by the template 'total and deterministic' (their statements: YtbmondbicnfcpaaDoorTotals.lean).
  GIVEN WITH THE SEED: the statements are not yours to turn. If you find one false, say at which input.
  Laid BY PROGRAM, IN A SANDBOX (cutbox-rows.mjs): the forced cells as the released guide's own fill.sh prints them over the translation 1a4481c43910cf2d… (all of the seat's roots in one cut). By AI agents, Wed Nov 11 2026. No macro, syntax, notation, axiom, sorry.
-/
import Derived.Test.YtbmondbicnfcpaaDoorChecked
import GoSem.Claim
import GoSem.ClaimJoined
import GoSem.ClaimMapViews
import Derived.JoinedTies
import Derived.KernelRfl
namespace Go.Proofs.YtbmondbicnfcpaaDoor
/- THE CELL 'sum', in the pinned program and in every row, IS THE sha256 OF THE DUMP (.gsa) THAT YtbmondbicnfcpaaDoorProg.lean LOADS. Nothing in Lean hashes anything: it is a label: what it is worth is what the hold of that sum in a sandbox is worth. -/
noncomputable def Tryd.pinned : Pinned := { name := "ytbmondbicnfcpaadoor", sum := "1a4481c43910cf2d62b911152f409b04ff98315a3fce30701ff97f5446f3845d", checked := Tryd.checked }
namespace Rows
def none {H : Type} : Left H := { results := [], args := [] }

/- WHAT THE LISTED PACKAGE-LEVEL VARIABLES READ AS WHEN THE CALL BEGINS. Each datum BY PROGRAM (the guide's laid-datum.mjs) off the statement by which the dump's own 'gosem.cut.vars' lays the variable. In a bare row this is a premise. The card (YtbmondbicnfcpaaDoorCards.lean) ties it to the program's text. -/
def laid_math_bits_deBruijn32tab {H : Type} : DataW H := .agg [.lit (.int .u8 0), .lit (.int .u8 1), .lit (.int .u8 28), .lit (.int .u8 2), .lit (.int .u8 29), .lit (.int .u8 14), .lit (.int .u8 24), .lit (.int .u8 3), .lit (.int .u8 30), .lit (.int .u8 22), .lit (.int .u8 20), .lit (.int .u8 15), .lit (.int .u8 25), .lit (.int .u8 17), .lit (.int .u8 4), .lit (.int .u8 8), .lit (.int .u8 31), .lit (.int .u8 27), .lit (.int .u8 13), .lit (.int .u8 23), .lit (.int .u8 21), .lit (.int .u8 19), .lit (.int .u8 16), .lit (.int .u8 7), .lit (.int .u8 26), .lit (.int .u8 12), .lit (.int .u8 18), .lit (.int .u8 6), .lit (.int .u8 11), .lit (.int .u8 5), .lit (.int .u8 10), .lit (.int .u8 9)]
def laid_math_bits_deBruijn64tab {H : Type} : DataW H := .agg [.lit (.int .u8 0), .lit (.int .u8 1), .lit (.int .u8 56), .lit (.int .u8 2), .lit (.int .u8 57), .lit (.int .u8 49), .lit (.int .u8 28), .lit (.int .u8 3), .lit (.int .u8 61), .lit (.int .u8 58), .lit (.int .u8 42), .lit (.int .u8 50), .lit (.int .u8 38), .lit (.int .u8 29), .lit (.int .u8 17), .lit (.int .u8 4), .lit (.int .u8 62), .lit (.int .u8 47), .lit (.int .u8 59), .lit (.int .u8 36), .lit (.int .u8 45), .lit (.int .u8 43), .lit (.int .u8 51), .lit (.int .u8 22), .lit (.int .u8 53), .lit (.int .u8 39), .lit (.int .u8 33), .lit (.int .u8 30), .lit (.int .u8 24), .lit (.int .u8 18), .lit (.int .u8 12), .lit (.int .u8 5), .lit (.int .u8 63), .lit (.int .u8 55), .lit (.int .u8 48), .lit (.int .u8 27), .lit (.int .u8 60), .lit (.int .u8 41), .lit (.int .u8 37), .lit (.int .u8 16), .lit (.int .u8 46), .lit (.int .u8 35), .lit (.int .u8 44), .lit (.int .u8 21), .lit (.int .u8 52), .lit (.int .u8 32), .lit (.int .u8 23), .lit (.int .u8 11), .lit (.int .u8 54), .lit (.int .u8 26), .lit (.int .u8 40), .lit (.int .u8 15), .lit (.int .u8 34), .lit (.int .u8 20), .lit (.int .u8 31), .lit (.int .u8 10), .lit (.int .u8 25), .lit (.int .u8 14), .lit (.int .u8 19), .lit (.int .u8 9), .lit (.int .u8 13), .lit (.int .u8 8), .lit (.int .u8 7), .lit (.int .u8 6)]
def laid_internal_strconv_uint64pow10 {H : Type} : DataW H := .agg [.lit (.int .u64 1), .lit (.int .u64 10), .lit (.int .u64 100), .lit (.int .u64 1000), .lit (.int .u64 10000), .lit (.int .u64 100000), .lit (.int .u64 1000000), .lit (.int .u64 10000000), .lit (.int .u64 100000000), .lit (.int .u64 1000000000), .lit (.int .u64 10000000000), .lit (.int .u64 100000000000), .lit (.int .u64 1000000000000), .lit (.int .u64 10000000000000), .lit (.int .u64 100000000000000), .lit (.int .u64 1000000000000000), .lit (.int .u64 10000000000000000), .lit (.int .u64 100000000000000000), .lit (.int .u64 1000000000000000000), .lit (.int .u64 10000000000000000000)]
def laid_relict_ext_shapes {H : Type} : DataW H := .agg [.agg [.lit (.int .u8 97), .lit (.int .i64 0), .lit (.int .i64 0), .lit (.int .i64 0), .lit (.int .i64 1), .lit (.int .i64 0)], .agg [.lit (.int .u8 98), .lit (.int .i64 0), .lit (.int .i64 0), .lit (.int .i64 0), .lit (.int .i64 4), .lit (.int .i64 0)], .agg [.lit (.int .u8 110), .lit (.int .i64 1), .lit (.int .i64 1), .lit (.int .i64 48), .lit (.int .i64 1), .lit (.int .i64 1)], .agg [.lit (.int .u8 119), .lit (.int .i64 1), .lit (.int .i64 1), .lit (.int .i64 40), .lit (.int .i64 0), .lit (.int .i64 1)], .agg [.lit (.int .u8 106), .lit (.int .i64 0), .lit (.int .i64 0), .lit (.int .i64 0), .lit (.int .i64 0), .lit (.int .i64 0)], .agg [.lit (.int .u8 108), .lit (.int .i64 4), .lit (.int .i64 1), .lit (.int .i64 2000), .lit (.int .i64 0), .lit (.int .i64 0)], .agg [.lit (.int .u8 104), .lit (.int .i64 1), .lit (.int .i64 0), .lit (.int .i64 40), .lit (.int .i64 0), .lit (.int .i64 0)], .agg [.lit (.int .u8 109), .lit (.int .i64 4), .lit (.int .i64 0), .lit (.int .i64 400), .lit (.int .i64 0), .lit (.int .i64 1)]]

/-- 'relictlaw03.TermTexts': WHATEVER THE INPUT: true; the input reads as it did. -/
def termTextsSpec : ChangeSpec := { name := "termTexts", fn := fun _ => fun
  | [d1, d2] => { results := [.lit (.bool true)], args := [d1, d2] }
  | _ => none }
def termTextsRow : OpenClaim := { program := "ytbmondbicnfcpaadoor", sum := "1a4481c43910cf2d62b911152f409b04ff98315a3fce30701ff97f5446f3845d", func := "relict/relictlaw03.TermTexts", spec := "termTexts", inPlace := ["internal/abi.NoEscape"], unfollowed := true, recurses := true, named := ["internal/strconv.uint64pow10", "math/bits.deBruijn32tab", "math/bits.deBruijn64tab"], apart := false, laid := [("math/bits.deBruijn32tab", laid_math_bits_deBruijn32tab), ("math/bits.deBruijn64tab", laid_math_bits_deBruijn64tab), ("internal/strconv.uint64pow10", laid_internal_strconv_uint64pow10)] }
def TermTextsSaid : Prop := termTextsRow.holds Tryd.pinned (OpenSpec.ofChange termTextsSpec)

/-- ITS FALSE NEIGHBOUR: 'it returns false'. Refute it at one input. -/
def termTextsWrong : ChangeSpec := { name := "termTexts", fn := fun _ => fun
  | [d1, d2] => { results := [.lit (.bool false)], args := [d1, d2] }
  | _ => none }
def TermTextsWrongFalsely : Prop := termTextsRow.holds Tryd.pinned (OpenSpec.ofChange termTextsWrong)

/-- 'relictlaw04.ExtAll': WHATEVER THE INPUT: true; the input reads as it did. -/
def extAllSpec : ChangeSpec := { name := "extAll", fn := fun _ => fun
  | [d1, d2, d3] => { results := [.lit (.bool true)], args := [d1, d2, d3] }
  | _ => none }
def extAllRow : OpenClaim := { program := "ytbmondbicnfcpaadoor", sum := "1a4481c43910cf2d62b911152f409b04ff98315a3fce30701ff97f5446f3845d", func := "relict/relictlaw04.ExtAll", spec := "extAll", unfollowed := true, recurses := true, named := ["relict/ext.shapes"], loops := true, apart := false, laid := [("relict/ext.shapes", laid_relict_ext_shapes)] }
def ExtAllSaid : Prop := extAllRow.holds Tryd.pinned (OpenSpec.ofChange extAllSpec)

/-- ITS FALSE NEIGHBOUR: 'it returns false'. Refute it at one input. -/
def extAllWrong : ChangeSpec := { name := "extAll", fn := fun _ => fun
  | [d1, d2, d3] => { results := [.lit (.bool false)], args := [d1, d2, d3] }
  | _ => none }
def ExtAllWrongFalsely : Prop := extAllRow.holds Tryd.pinned (OpenSpec.ofChange extAllWrong)

/-- 'relictlaw04.ExtBack': WHATEVER THE INPUT: true; the input reads as it did. -/
def extBackSpec : ChangeSpec := { name := "extBack", fn := fun _ => fun
  | [d1, d2, d3] => { results := [.lit (.bool true)], args := [d1, d2, d3] }
  | _ => none }
def extBackRow : OpenClaim := { program := "ytbmondbicnfcpaadoor", sum := "1a4481c43910cf2d62b911152f409b04ff98315a3fce30701ff97f5446f3845d", func := "relict/relictlaw04.ExtBack", spec := "extBack", unfollowed := true, recurses := true, named := ["relict/ext.shapes"], loops := true, apart := false, laid := [("relict/ext.shapes", laid_relict_ext_shapes)] }
def ExtBackSaid : Prop := extBackRow.holds Tryd.pinned (OpenSpec.ofChange extBackSpec)

/-- ITS FALSE NEIGHBOUR: 'it returns false'. Refute it at one input. -/
def extBackWrong : ChangeSpec := { name := "extBack", fn := fun _ => fun
  | [d1, d2, d3] => { results := [.lit (.bool false)], args := [d1, d2, d3] }
  | _ => none }
def ExtBackWrongFalsely : Prop := extBackRow.holds Tryd.pinned (OpenSpec.ofChange extBackWrong)

/-- 'relictlaw04.ExtOne': WHATEVER THE INPUT: true; the input reads as it did. -/
def extOneSpec : ChangeSpec := { name := "extOne", fn := fun _ => fun
  | [d] => { results := [.lit (.bool true)], args := [d] }
  | _ => none }
def extOneRow : OpenClaim := { program := "ytbmondbicnfcpaadoor", sum := "1a4481c43910cf2d62b911152f409b04ff98315a3fce30701ff97f5446f3845d", func := "relict/relictlaw04.ExtOne", spec := "extOne", unfollowed := true, recurses := true, named := ["relict/ext.shapes"], apart := false, laid := [("relict/ext.shapes", laid_relict_ext_shapes)] }
def ExtOneSaid : Prop := extOneRow.holds Tryd.pinned (OpenSpec.ofChange extOneSpec)

/-- ITS FALSE NEIGHBOUR: 'it returns false'. Refute it at one input. -/
def extOneWrong : ChangeSpec := { name := "extOne", fn := fun _ => fun
  | [d] => { results := [.lit (.bool false)], args := [d] }
  | _ => none }
def ExtOneWrongFalsely : Prop := extOneRow.holds Tryd.pinned (OpenSpec.ofChange extOneWrong)

/-- 'relictlaw04.ExtNumbers': WHATEVER THE INPUT: true; the input reads as it did. -/
def extNumbersSpec : ChangeSpec := { name := "extNumbers", fn := fun _ => fun
  | [d1, d2, d3] => { results := [.lit (.bool true)], args := [d1, d2, d3] }
  | _ => none }
def extNumbersRow : OpenClaim := { program := "ytbmondbicnfcpaadoor", sum := "1a4481c43910cf2d62b911152f409b04ff98315a3fce30701ff97f5446f3845d", func := "relict/relictlaw04.ExtNumbers", spec := "extNumbers", unfollowed := true, recurses := true, named := ["relict/ext.shapes"], apart := false, laid := [("relict/ext.shapes", laid_relict_ext_shapes)] }
def ExtNumbersSaid : Prop := extNumbersRow.holds Tryd.pinned (OpenSpec.ofChange extNumbersSpec)

/-- ITS FALSE NEIGHBOUR: 'it returns false'. Refute it at one input. -/
def extNumbersWrong : ChangeSpec := { name := "extNumbers", fn := fun _ => fun
  | [d1, d2, d3] => { results := [.lit (.bool false)], args := [d1, d2, d3] }
  | _ => none }
def ExtNumbersWrongFalsely : Prop := extNumbersRow.holds Tryd.pinned (OpenSpec.ofChange extNumbersWrong)

/-- 'relictlaw04.ExtLong': WHATEVER THE INPUT: true; the input reads as it did. -/
def extLongSpec : ChangeSpec := { name := "extLong", fn := fun _ => fun
  | [d1, d2] => { results := [.lit (.bool true)], args := [d1, d2] }
  | _ => none }
def extLongRow : OpenClaim := { program := "ytbmondbicnfcpaadoor", sum := "1a4481c43910cf2d62b911152f409b04ff98315a3fce30701ff97f5446f3845d", func := "relict/relictlaw04.ExtLong", spec := "extLong", unfollowed := true, recurses := true, named := ["relict/ext.shapes"], apart := false, laid := [("relict/ext.shapes", laid_relict_ext_shapes)] }
def ExtLongSaid : Prop := extLongRow.holds Tryd.pinned (OpenSpec.ofChange extLongSpec)

/-- ITS FALSE NEIGHBOUR: 'it returns false'. Refute it at one input. -/
def extLongWrong : ChangeSpec := { name := "extLong", fn := fun _ => fun
  | [d1, d2] => { results := [.lit (.bool false)], args := [d1, d2] }
  | _ => none }
def ExtLongWrongFalsely : Prop := extLongRow.holds Tryd.pinned (OpenSpec.ofChange extLongWrong)

/- THE SECOND FORM. 'bulk': how many values and letters a reading holds, each counted each time it is reached (what is shared counts as often as it is met; a slice's spare places count too). A statement '..UptoSaid' is the law's where the arguments, and the package variables that the reading takes, are together of bulk at most 1048576: NARROWER than '..Said'. Prove '..Said' where nothing that the law and all that it calls make is longer than what came in: it says more and counts as full. Else prove '..UptoSaid'. A law counts once. -/
mutual
def uptoBulk {H : Type} : DataW H → Nat
  | .lit (.string bytes) => bytes.length + 1
  | .lit _ => 1
  | .nil => 1
  | .ptr d => uptoBulk d + 1
  | .slice elems spare => uptoBulkAll elems + uptoBulkAll spare + 1
  | .agg parts => uptoBulkAll parts + 1
  | .iface _ d => uptoBulk d + 1
  | .map entries => uptoBulkEntries entries + 1
  | .held _ => 1
def uptoBulkAll {H : Type} : List (DataW H) → Nat
  | [] => 0
  | d :: r => uptoBulk d + uptoBulkAll r
def uptoBulkEntries {H : Type} : List (Lit × DataW H) → Nat
  | [] => 0
  | x :: r => uptoBulkEntry x + uptoBulkEntries r
def uptoBulkEntry {H : Type} : Lit × DataW H → Nat
  | (.string bytes, d) => bytes.length + uptoBulk d + 1
  | (_, d) => uptoBulk d + 1
 end
def uptoSmall : (H : Type) → List (DataW H) → Bool := fun _ ds => decide (uptoBulkAll ds ≤ 1048576)
def OpenSpec.upto (s : _root_.Go.ChangeSpec) : _root_.Go.OpenSpec := { _root_.Go.OpenSpec.ofChange s with cond := some uptoSmall }

/-- 'relictlaw03.TermTexts', WHERE WHAT IT READS IS OF BULK AT MOST 1048576: true; the input reads as it did. -/
def termTextsUptoRow : OpenClaim := { program := "ytbmondbicnfcpaadoor", sum := "1a4481c43910cf2d62b911152f409b04ff98315a3fce30701ff97f5446f3845d", func := "relict/relictlaw03.TermTexts", spec := "termTexts", inPlace := ["internal/abi.NoEscape"], unfollowed := true, recurses := true, named := ["internal/strconv.uint64pow10", "math/bits.deBruijn32tab", "math/bits.deBruijn64tab"], apart := false, laid := [("math/bits.deBruijn32tab", laid_math_bits_deBruijn32tab), ("math/bits.deBruijn64tab", laid_math_bits_deBruijn64tab), ("internal/strconv.uint64pow10", laid_internal_strconv_uint64pow10)], narrowed := true }
def TermTextsUptoSaid : Prop := termTextsUptoRow.holds Tryd.pinned (OpenSpec.upto termTextsSpec)

/-- 'relictlaw04.ExtAll', WHERE WHAT IT READS IS OF BULK AT MOST 1048576: true; the input reads as it did. -/
def extAllUptoRow : OpenClaim := { program := "ytbmondbicnfcpaadoor", sum := "1a4481c43910cf2d62b911152f409b04ff98315a3fce30701ff97f5446f3845d", func := "relict/relictlaw04.ExtAll", spec := "extAll", unfollowed := true, recurses := true, named := ["relict/ext.shapes"], loops := true, apart := false, laid := [("relict/ext.shapes", laid_relict_ext_shapes)], narrowed := true }
def ExtAllUptoSaid : Prop := extAllUptoRow.holds Tryd.pinned (OpenSpec.upto extAllSpec)

/-- 'relictlaw04.ExtBack', WHERE WHAT IT READS IS OF BULK AT MOST 1048576: true; the input reads as it did. -/
def extBackUptoRow : OpenClaim := { program := "ytbmondbicnfcpaadoor", sum := "1a4481c43910cf2d62b911152f409b04ff98315a3fce30701ff97f5446f3845d", func := "relict/relictlaw04.ExtBack", spec := "extBack", unfollowed := true, recurses := true, named := ["relict/ext.shapes"], loops := true, apart := false, laid := [("relict/ext.shapes", laid_relict_ext_shapes)], narrowed := true }
def ExtBackUptoSaid : Prop := extBackUptoRow.holds Tryd.pinned (OpenSpec.upto extBackSpec)

/-- 'relictlaw04.ExtOne', WHERE WHAT IT READS IS OF BULK AT MOST 1048576: true; the input reads as it did. -/
def extOneUptoRow : OpenClaim := { program := "ytbmondbicnfcpaadoor", sum := "1a4481c43910cf2d62b911152f409b04ff98315a3fce30701ff97f5446f3845d", func := "relict/relictlaw04.ExtOne", spec := "extOne", unfollowed := true, recurses := true, named := ["relict/ext.shapes"], apart := false, laid := [("relict/ext.shapes", laid_relict_ext_shapes)], narrowed := true }
def ExtOneUptoSaid : Prop := extOneUptoRow.holds Tryd.pinned (OpenSpec.upto extOneSpec)

/-- 'relictlaw04.ExtNumbers', WHERE WHAT IT READS IS OF BULK AT MOST 1048576: true; the input reads as it did. -/
def extNumbersUptoRow : OpenClaim := { program := "ytbmondbicnfcpaadoor", sum := "1a4481c43910cf2d62b911152f409b04ff98315a3fce30701ff97f5446f3845d", func := "relict/relictlaw04.ExtNumbers", spec := "extNumbers", unfollowed := true, recurses := true, named := ["relict/ext.shapes"], apart := false, laid := [("relict/ext.shapes", laid_relict_ext_shapes)], narrowed := true }
def ExtNumbersUptoSaid : Prop := extNumbersUptoRow.holds Tryd.pinned (OpenSpec.upto extNumbersSpec)

/-- 'relictlaw04.ExtLong', WHERE WHAT IT READS IS OF BULK AT MOST 1048576: true; the input reads as it did. -/
def extLongUptoRow : OpenClaim := { program := "ytbmondbicnfcpaadoor", sum := "1a4481c43910cf2d62b911152f409b04ff98315a3fce30701ff97f5446f3845d", func := "relict/relictlaw04.ExtLong", spec := "extLong", unfollowed := true, recurses := true, named := ["relict/ext.shapes"], apart := false, laid := [("relict/ext.shapes", laid_relict_ext_shapes)], narrowed := true }
def ExtLongUptoSaid : Prop := extLongUptoRow.holds Tryd.pinned (OpenSpec.upto extLongSpec)

end Rows
end Go.Proofs.YtbmondbicnfcpaaDoor
