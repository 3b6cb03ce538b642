/-
  DERIVED. GIVEN WITH THE SEED: THE CARDS: each row of YtbmondbicnfcpaaDoorRows.lean that lists a variable, with what it lists TIED to the program's text (the seventh form; the later family's looks); each row that meets fmt, with fmt's text TOLD by the authors' own Lean function (tested against real Go, not proved from fmt's source: count such statements apart). THE CARD IS WHAT COUNTS. Prove the row's statement (the work); the ties are given (YtbmondbicnfcpaaDoorTie.lean); close each card by the builder's one call (the guide's Derived/Test/ToyasCard.lean, 'card_holds'). Laid BY PROGRAM, IN A SANDBOX (cutbox-door.mjs). By AI agents, Wed Nov 11 2026. No macro, syntax, notation, axiom, sorry.
-/
import Derived.Test.YtbmondbicnfcpaaDoorRows
import GoSem.ClaimSeven
namespace Go.Proofs.YtbmondbicnfcpaaDoor
namespace Rows

/-- THE TIED CARD OF 'relictlaw03.TermTexts'. -/
def termTextsCard : Claim7 := { stood := { row := termTextsRow, standIns := [], harness := (true, "08259ab98136425d4875eefd416e50be3f9e91c611b491408ff7f45657117286"), looks := false }, kinds := [], alts := [], laidByText := true, laidKinds := [.data, .data, .data], laidTests := true, laidLooks := .later }
def TermTextsCardSaid : Prop := Claim7.holds Tryd.pinned (.plain (OpenSpec.ofChange termTextsSpec)) termTextsCard

/-- THE TIED CARD OF 'relictlaw04.ExtAll'. -/
def extAllCard : Claim7 := { stood := { row := extAllRow, standIns := [], harness := (true, "08259ab98136425d4875eefd416e50be3f9e91c611b491408ff7f45657117286"), looks := false }, kinds := [], alts := [], laidByText := true, laidKinds := [.data], laidTests := true, laidLooks := .later }
def ExtAllCardSaid : Prop := Claim7.holds Tryd.pinned (.plain (OpenSpec.ofChange extAllSpec)) extAllCard

/-- THE TIED CARD OF 'relictlaw04.ExtBack'. -/
def extBackCard : Claim7 := { stood := { row := extBackRow, standIns := [], harness := (true, "08259ab98136425d4875eefd416e50be3f9e91c611b491408ff7f45657117286"), looks := false }, kinds := [], alts := [], laidByText := true, laidKinds := [.data], laidTests := true, laidLooks := .later }
def ExtBackCardSaid : Prop := Claim7.holds Tryd.pinned (.plain (OpenSpec.ofChange extBackSpec)) extBackCard

/-- THE TIED CARD OF 'relictlaw04.ExtOne'. -/
def extOneCard : Claim7 := { stood := { row := extOneRow, standIns := [], harness := (true, "08259ab98136425d4875eefd416e50be3f9e91c611b491408ff7f45657117286"), looks := false }, kinds := [], alts := [], laidByText := true, laidKinds := [.data], laidTests := true, laidLooks := .later }
def ExtOneCardSaid : Prop := Claim7.holds Tryd.pinned (.plain (OpenSpec.ofChange extOneSpec)) extOneCard

/-- THE TIED CARD OF 'relictlaw04.ExtNumbers'. -/
def extNumbersCard : Claim7 := { stood := { row := extNumbersRow, standIns := [], harness := (true, "08259ab98136425d4875eefd416e50be3f9e91c611b491408ff7f45657117286"), looks := false }, kinds := [], alts := [], laidByText := true, laidKinds := [.data], laidTests := true, laidLooks := .later }
def ExtNumbersCardSaid : Prop := Claim7.holds Tryd.pinned (.plain (OpenSpec.ofChange extNumbersSpec)) extNumbersCard

/-- THE TIED CARD OF 'relictlaw04.ExtLong'. -/
def extLongCard : Claim7 := { stood := { row := extLongRow, standIns := [], harness := (true, "08259ab98136425d4875eefd416e50be3f9e91c611b491408ff7f45657117286"), looks := false }, kinds := [], alts := [], laidByText := true, laidKinds := [.data], laidTests := true, laidLooks := .later }
def ExtLongCardSaid : Prop := Claim7.holds Tryd.pinned (.plain (OpenSpec.ofChange extLongSpec)) extLongCard

/-- THE SECOND FORM's CARD OF 'relictlaw03.TermTexts'. -/
def termTextsUptoCard : Claim7 := { stood := { row := termTextsUptoRow, standIns := [], harness := (true, "08259ab98136425d4875eefd416e50be3f9e91c611b491408ff7f45657117286"), looks := false }, kinds := [], alts := [], laidByText := true, laidKinds := [.data, .data, .data], laidTests := true, laidLooks := .later }
def TermTextsUptoCardSaid : Prop := Claim7.holds Tryd.pinned (.plain (OpenSpec.upto termTextsSpec)) termTextsUptoCard

/-- THE SECOND FORM's CARD OF 'relictlaw04.ExtAll'. -/
def extAllUptoCard : Claim7 := { stood := { row := extAllUptoRow, standIns := [], harness := (true, "08259ab98136425d4875eefd416e50be3f9e91c611b491408ff7f45657117286"), looks := false }, kinds := [], alts := [], laidByText := true, laidKinds := [.data], laidTests := true, laidLooks := .later }
def ExtAllUptoCardSaid : Prop := Claim7.holds Tryd.pinned (.plain (OpenSpec.upto extAllSpec)) extAllUptoCard

/-- THE SECOND FORM's CARD OF 'relictlaw04.ExtBack'. -/
def extBackUptoCard : Claim7 := { stood := { row := extBackUptoRow, standIns := [], harness := (true, "08259ab98136425d4875eefd416e50be3f9e91c611b491408ff7f45657117286"), looks := false }, kinds := [], alts := [], laidByText := true, laidKinds := [.data], laidTests := true, laidLooks := .later }
def ExtBackUptoCardSaid : Prop := Claim7.holds Tryd.pinned (.plain (OpenSpec.upto extBackSpec)) extBackUptoCard

/-- THE SECOND FORM's CARD OF 'relictlaw04.ExtOne'. -/
def extOneUptoCard : Claim7 := { stood := { row := extOneUptoRow, standIns := [], harness := (true, "08259ab98136425d4875eefd416e50be3f9e91c611b491408ff7f45657117286"), looks := false }, kinds := [], alts := [], laidByText := true, laidKinds := [.data], laidTests := true, laidLooks := .later }
def ExtOneUptoCardSaid : Prop := Claim7.holds Tryd.pinned (.plain (OpenSpec.upto extOneSpec)) extOneUptoCard

/-- THE SECOND FORM's CARD OF 'relictlaw04.ExtNumbers'. -/
def extNumbersUptoCard : Claim7 := { stood := { row := extNumbersUptoRow, standIns := [], harness := (true, "08259ab98136425d4875eefd416e50be3f9e91c611b491408ff7f45657117286"), looks := false }, kinds := [], alts := [], laidByText := true, laidKinds := [.data], laidTests := true, laidLooks := .later }
def ExtNumbersUptoCardSaid : Prop := Claim7.holds Tryd.pinned (.plain (OpenSpec.upto extNumbersSpec)) extNumbersUptoCard

/-- THE SECOND FORM's CARD OF 'relictlaw04.ExtLong'. -/
def extLongUptoCard : Claim7 := { stood := { row := extLongUptoRow, standIns := [], harness := (true, "08259ab98136425d4875eefd416e50be3f9e91c611b491408ff7f45657117286"), looks := false }, kinds := [], alts := [], laidByText := true, laidKinds := [.data], laidTests := true, laidLooks := .later }
def ExtLongUptoCardSaid : Prop := Claim7.holds Tryd.pinned (.plain (OpenSpec.upto extLongSpec)) extLongUptoCard
end Rows
end Go.Proofs.YtbmondbicnfcpaaDoor
