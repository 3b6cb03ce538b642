/-
  DERIVED. GIVEN WITH THE SEED: THE CARDS: each row of YtgjjeghnfhjnnaaDoorRows.lean that lists a variable, with what it lists TIED to the program's text (the seventh form; the later family's looks); each row that meets fmt, with fmt's text TOLD by the authors' own Lean function (tested against real Go, not proved from fmt's source: count such statements apart). THE CARD IS WHAT COUNTS. Prove the row's statement (the work); the ties are given (YtgjjeghnfhjnnaaDoorTie.lean); close each card by the builder's one call (the guide's Derived/Test/ToyasCard.lean, 'card_holds'). Laid BY PROGRAM, IN A SANDBOX (cutbox-door.mjs). By AI agents, Wed Nov 11 2026. No macro, syntax, notation, axiom, sorry.
-/
import Derived.Test.YtgjjeghnfhjnnaaDoorRows
import GoSem.ClaimSeven
namespace Go.Proofs.YtgjjeghnfhjnnaaDoor
namespace Rows

/-- THE TIED CARD OF 'relictlaw06.CompactAll'. -/
def compactAllCard : Claim7 := { stood := { row := compactAllRow, standIns := [], harness := (true, "b76d0b1af72fcb921d37e2b14bcf8e1315b789c5fee030998b88918cbb1ebf8a"), looks := false }, kinds := [], alts := [], laidByText := true, laidKinds := [.data], laidTests := true, laidLooks := .later }
def CompactAllCardSaid : Prop := Claim7.holds Tryd.pinned (.plain (OpenSpec.ofChange compactAllSpec)) compactAllCard

/-- THE TIED CARD OF 'relictlaw07.OpsPairs'. -/
def opsPairsCard : Claim7 := { stood := { row := opsPairsRow, standIns := [], harness := (true, "b76d0b1af72fcb921d37e2b14bcf8e1315b789c5fee030998b88918cbb1ebf8a"), looks := false }, kinds := [], alts := [], laidByText := true, laidKinds := [.data], laidTests := true, laidLooks := .later }
def OpsPairsCardSaid : Prop := Claim7.holds Tryd.pinned (.plain (OpenSpec.ofChange opsPairsSpec)) opsPairsCard

/-- THE TIED CARD OF 'relictlaw08.CodeOne'. -/
def codeOneCard : Claim7 := { stood := { row := codeOneRow, standIns := [], harness := (true, "b76d0b1af72fcb921d37e2b14bcf8e1315b789c5fee030998b88918cbb1ebf8a"), looks := false }, kinds := [], alts := [], laidByText := true, laidKinds := [.data, .data], laidTests := true, laidLooks := .later }
def CodeOneCardSaid : Prop := Claim7.holds Tryd.pinned (.plain (OpenSpec.ofChange codeOneSpec)) codeOneCard

/-- THE TIED CARD OF 'relictlaw08.CodeLabels'. -/
def codeLabelsCard : Claim7 := { stood := { row := codeLabelsRow, standIns := [], harness := (true, "b76d0b1af72fcb921d37e2b14bcf8e1315b789c5fee030998b88918cbb1ebf8a"), looks := false }, kinds := [], alts := [], laidByText := true, laidKinds := [.data, .data], laidTests := true, laidLooks := .later }
def CodeLabelsCardSaid : Prop := Claim7.holds Tryd.pinned (.plain (OpenSpec.ofChange codeLabelsSpec)) codeLabelsCard

/-- THE TIED CARD OF 'relictlaw08.CodeWrong'. -/
def codeWrongCard : Claim7 := { stood := { row := codeWrongRow, standIns := [], harness := (true, "b76d0b1af72fcb921d37e2b14bcf8e1315b789c5fee030998b88918cbb1ebf8a"), looks := false }, kinds := [], alts := [], laidByText := true, laidKinds := [.data, .data], laidTests := true, laidLooks := .later }
def CodeWrongCardSaid : Prop := Claim7.holds Tryd.pinned (.plain (OpenSpec.ofChange codeWrongSpec)) codeWrongCard

/-- THE SECOND FORM's CARD OF 'relictlaw06.CompactAll'. -/
def compactAllUptoCard : Claim7 := { stood := { row := compactAllUptoRow, standIns := [], harness := (true, "b76d0b1af72fcb921d37e2b14bcf8e1315b789c5fee030998b88918cbb1ebf8a"), looks := false }, kinds := [], alts := [], laidByText := true, laidKinds := [.data], laidTests := true, laidLooks := .later }
def CompactAllUptoCardSaid : Prop := Claim7.holds Tryd.pinned (.plain (OpenSpec.upto compactAllSpec)) compactAllUptoCard

/-- THE SECOND FORM's CARD OF 'relictlaw07.OpsPairs'. -/
def opsPairsUptoCard : Claim7 := { stood := { row := opsPairsUptoRow, standIns := [], harness := (true, "b76d0b1af72fcb921d37e2b14bcf8e1315b789c5fee030998b88918cbb1ebf8a"), looks := false }, kinds := [], alts := [], laidByText := true, laidKinds := [.data], laidTests := true, laidLooks := .later }
def OpsPairsUptoCardSaid : Prop := Claim7.holds Tryd.pinned (.plain (OpenSpec.upto opsPairsSpec)) opsPairsUptoCard

/-- THE SECOND FORM's CARD OF 'relictlaw08.CodeOne'. -/
def codeOneUptoCard : Claim7 := { stood := { row := codeOneUptoRow, standIns := [], harness := (true, "b76d0b1af72fcb921d37e2b14bcf8e1315b789c5fee030998b88918cbb1ebf8a"), looks := false }, kinds := [], alts := [], laidByText := true, laidKinds := [.data, .data], laidTests := true, laidLooks := .later }
def CodeOneUptoCardSaid : Prop := Claim7.holds Tryd.pinned (.plain (OpenSpec.upto codeOneSpec)) codeOneUptoCard

/-- THE SECOND FORM's CARD OF 'relictlaw08.CodeLabels'. -/
def codeLabelsUptoCard : Claim7 := { stood := { row := codeLabelsUptoRow, standIns := [], harness := (true, "b76d0b1af72fcb921d37e2b14bcf8e1315b789c5fee030998b88918cbb1ebf8a"), looks := false }, kinds := [], alts := [], laidByText := true, laidKinds := [.data, .data], laidTests := true, laidLooks := .later }
def CodeLabelsUptoCardSaid : Prop := Claim7.holds Tryd.pinned (.plain (OpenSpec.upto codeLabelsSpec)) codeLabelsUptoCard

/-- THE SECOND FORM's CARD OF 'relictlaw08.CodeWrong'. -/
def codeWrongUptoCard : Claim7 := { stood := { row := codeWrongUptoRow, standIns := [], harness := (true, "b76d0b1af72fcb921d37e2b14bcf8e1315b789c5fee030998b88918cbb1ebf8a"), looks := false }, kinds := [], alts := [], laidByText := true, laidKinds := [.data, .data], laidTests := true, laidLooks := .later }
def CodeWrongUptoCardSaid : Prop := Claim7.holds Tryd.pinned (.plain (OpenSpec.upto codeWrongSpec)) codeWrongUptoCard
end Rows
end Go.Proofs.YtgjjeghnfhjnnaaDoor
