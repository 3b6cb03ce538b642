/-
  DERIVED. GIVEN WITH THE SEED: THE CARDS: each row of YtfjibcldghnjcaaDoorRows.lean that lists a variable, with what it lists TIED to the program's text (the seventh form; the later family's looks); each row that meets fmt, with fmt's text TOLD by the authors' own Lean function (tested against real Go, not proved from fmt's source: count such statements apart). THE CARD IS WHAT COUNTS. Prove the row's statement (the work); the ties are given (YtfjibcldghnjcaaDoorTie.lean); close each card by the builder's one call (the guide's Derived/Test/ToyasCard.lean, 'card_holds'). Laid BY PROGRAM, IN A SANDBOX (cutbox-door.mjs). By AI agents, Wed Nov 11 2026. No macro, syntax, notation, axiom, sorry.
-/
import Derived.Test.YtfjibcldghnjcaaDoorRows
import GoSem.ClaimSeven
namespace Go.Proofs.YtfjibcldghnjcaaDoor
namespace Rows

/-- THE TIED CARD OF 'relictlaw08.CodeLabels'. -/
def codeLabelsCard : Claim7 := { stood := { row := codeLabelsRow, standIns := [], harness := (true, "ba698ba7a170bc552ecf3181a3ba361fbb632e3d677b0766a10f7366ce6dbce7"), looks := false }, kinds := [], alts := [], laidByText := true, laidKinds := [.data, .data], laidTests := true, laidLooks := .later }
def CodeLabelsCardSaid : Prop := Claim7.holds Tryd.pinned (.plain (OpenSpec.ofChange codeLabelsSpec)) codeLabelsCard

/-- THE SECOND FORM's CARD OF 'relictlaw08.CodeLabels'. -/
def codeLabelsUptoCard : Claim7 := { stood := { row := codeLabelsUptoRow, standIns := [], harness := (true, "ba698ba7a170bc552ecf3181a3ba361fbb632e3d677b0766a10f7366ce6dbce7"), looks := false }, kinds := [], alts := [], laidByText := true, laidKinds := [.data, .data], laidTests := true, laidLooks := .later }
def CodeLabelsUptoCardSaid : Prop := Claim7.holds Tryd.pinned (.plain (OpenSpec.upto codeLabelsSpec)) codeLabelsUptoCard
end Rows
end Go.Proofs.YtfjibcldghnjcaaDoor
