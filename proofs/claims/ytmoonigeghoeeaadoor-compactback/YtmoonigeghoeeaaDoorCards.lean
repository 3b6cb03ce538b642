/-
  DERIVED. GIVEN WITH THE SEED: THE CARDS: each row of YtmoonigeghoeeaaDoorRows.lean that lists a variable, with what it lists TIED to the program's text (the seventh form; the later family's looks); each row that meets fmt, with fmt's text TOLD by the authors' own Lean function (tested against real Go, not proved from fmt's source: count such statements apart). THE CARD IS WHAT COUNTS. Prove the row's statement (the work); the ties are given (YtmoonigeghoeeaaDoorTie.lean); close each card by the builder's one call (the guide's Derived/Test/ToyasCard.lean, 'card_holds'). Laid BY PROGRAM, IN A SANDBOX (cutbox-door.mjs). By AI agents, Wed Nov 11 2026. No macro, syntax, notation, axiom, sorry.
-/
import Derived.Test.YtmoonigeghoeeaaDoorRows
import GoSem.ClaimSeven
namespace Go.Proofs.YtmoonigeghoeeaaDoor
namespace Rows

/-- THE TIED CARD OF 'relictlaw06.CompactAll'. -/
def compactAllCard : Claim7 := { stood := { row := compactAllRow, standIns := [], harness := (true, "db932b4335aaa4a43b7c1813219b6aaf17ae52b2ca89d1c6f0ea0cd4db2ce71c"), looks := false }, kinds := [], alts := [], laidByText := true, laidKinds := [.data], laidTests := true, laidLooks := .later }
def CompactAllCardSaid : Prop := Claim7.holds Tryd.pinned (.plain (OpenSpec.ofChange compactAllSpec)) compactAllCard

/-- THE TIED CARD OF 'relictlaw06.CompactBack'. -/
def compactBackCard : Claim7 := { stood := { row := compactBackRow, standIns := [], harness := (true, "db932b4335aaa4a43b7c1813219b6aaf17ae52b2ca89d1c6f0ea0cd4db2ce71c"), looks := false }, kinds := [], alts := [], laidByText := true, laidKinds := [.data], laidTests := true, laidLooks := .later }
def CompactBackCardSaid : Prop := Claim7.holds Tryd.pinned (.plain (OpenSpec.ofChange compactBackSpec)) compactBackCard

/-- THE TIED CARD OF 'relictlaw06.CompactNumbers'. -/
def compactNumbersCard : Claim7 := { stood := { row := compactNumbersRow, standIns := [], harness := (true, "db932b4335aaa4a43b7c1813219b6aaf17ae52b2ca89d1c6f0ea0cd4db2ce71c"), looks := false }, kinds := [], alts := [], laidByText := true, laidKinds := [.data], laidTests := true, laidLooks := .later }
def CompactNumbersCardSaid : Prop := Claim7.holds Tryd.pinned (.plain (OpenSpec.ofChange compactNumbersSpec)) compactNumbersCard

/-- THE TIED CARD OF 'relictlaw06.CompactOne'. -/
def compactOneCard : Claim7 := { stood := { row := compactOneRow, standIns := [], harness := (true, "db932b4335aaa4a43b7c1813219b6aaf17ae52b2ca89d1c6f0ea0cd4db2ce71c"), looks := false }, kinds := [], alts := [], laidByText := true, laidKinds := [.data], laidTests := true, laidLooks := .later }
def CompactOneCardSaid : Prop := Claim7.holds Tryd.pinned (.plain (OpenSpec.ofChange compactOneSpec)) compactOneCard

/-- THE TIED CARD OF 'relictlaw06.CompactInts'. -/
def compactIntsCard : Claim7 := { stood := { row := compactIntsRow, standIns := [], harness := (true, "db932b4335aaa4a43b7c1813219b6aaf17ae52b2ca89d1c6f0ea0cd4db2ce71c"), looks := false }, kinds := [], alts := [], laidByText := true, laidKinds := [.data], laidTests := true, laidLooks := .later }
def CompactIntsCardSaid : Prop := Claim7.holds Tryd.pinned (.plain (OpenSpec.ofChange compactIntsSpec)) compactIntsCard

/-- THE SECOND FORM's CARD OF 'relictlaw06.CompactAll'. -/
def compactAllUptoCard : Claim7 := { stood := { row := compactAllUptoRow, standIns := [], harness := (true, "db932b4335aaa4a43b7c1813219b6aaf17ae52b2ca89d1c6f0ea0cd4db2ce71c"), looks := false }, kinds := [], alts := [], laidByText := true, laidKinds := [.data], laidTests := true, laidLooks := .later }
def CompactAllUptoCardSaid : Prop := Claim7.holds Tryd.pinned (.plain (OpenSpec.upto compactAllSpec)) compactAllUptoCard

/-- THE SECOND FORM's CARD OF 'relictlaw06.CompactBack'. -/
def compactBackUptoCard : Claim7 := { stood := { row := compactBackUptoRow, standIns := [], harness := (true, "db932b4335aaa4a43b7c1813219b6aaf17ae52b2ca89d1c6f0ea0cd4db2ce71c"), looks := false }, kinds := [], alts := [], laidByText := true, laidKinds := [.data], laidTests := true, laidLooks := .later }
def CompactBackUptoCardSaid : Prop := Claim7.holds Tryd.pinned (.plain (OpenSpec.upto compactBackSpec)) compactBackUptoCard

/-- THE SECOND FORM's CARD OF 'relictlaw06.CompactNumbers'. -/
def compactNumbersUptoCard : Claim7 := { stood := { row := compactNumbersUptoRow, standIns := [], harness := (true, "db932b4335aaa4a43b7c1813219b6aaf17ae52b2ca89d1c6f0ea0cd4db2ce71c"), looks := false }, kinds := [], alts := [], laidByText := true, laidKinds := [.data], laidTests := true, laidLooks := .later }
def CompactNumbersUptoCardSaid : Prop := Claim7.holds Tryd.pinned (.plain (OpenSpec.upto compactNumbersSpec)) compactNumbersUptoCard

/-- THE SECOND FORM's CARD OF 'relictlaw06.CompactOne'. -/
def compactOneUptoCard : Claim7 := { stood := { row := compactOneUptoRow, standIns := [], harness := (true, "db932b4335aaa4a43b7c1813219b6aaf17ae52b2ca89d1c6f0ea0cd4db2ce71c"), looks := false }, kinds := [], alts := [], laidByText := true, laidKinds := [.data], laidTests := true, laidLooks := .later }
def CompactOneUptoCardSaid : Prop := Claim7.holds Tryd.pinned (.plain (OpenSpec.upto compactOneSpec)) compactOneUptoCard

/-- THE SECOND FORM's CARD OF 'relictlaw06.CompactInts'. -/
def compactIntsUptoCard : Claim7 := { stood := { row := compactIntsUptoRow, standIns := [], harness := (true, "db932b4335aaa4a43b7c1813219b6aaf17ae52b2ca89d1c6f0ea0cd4db2ce71c"), looks := false }, kinds := [], alts := [], laidByText := true, laidKinds := [.data], laidTests := true, laidLooks := .later }
def CompactIntsUptoCardSaid : Prop := Claim7.holds Tryd.pinned (.plain (OpenSpec.upto compactIntsSpec)) compactIntsUptoCard
end Rows
end Go.Proofs.YtmoonigeghoeeaaDoor
