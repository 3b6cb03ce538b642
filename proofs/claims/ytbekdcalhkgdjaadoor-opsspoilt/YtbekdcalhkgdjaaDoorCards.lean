/-
  DERIVED. GIVEN WITH THE SEED: THE CARDS: each row of YtbekdcalhkgdjaaDoorRows.lean that lists a variable, with what it lists TIED to the program's text (the seventh form; the later family's looks); each row that meets fmt, with fmt's text TOLD by the authors' own Lean function (tested against real Go, not proved from fmt's source: count such statements apart). THE CARD IS WHAT COUNTS. Prove the row's statement (the work); the ties are given (YtbekdcalhkgdjaaDoorTie.lean); close each card by the builder's one call (the guide's Derived/Test/ToyasCard.lean, 'card_holds'). Laid BY PROGRAM, IN A SANDBOX (cutbox-door.mjs). By AI agents, Wed Nov 11 2026. No macro, syntax, notation, axiom, sorry.
-/
import Derived.Test.YtbekdcalhkgdjaaDoorRows
import GoSem.ClaimSeven
namespace Go.Proofs.YtbekdcalhkgdjaaDoor
namespace Rows

/-- THE TIED CARD OF 'relictlaw07.OpsTable'. -/
def opsTableCard : Claim7 := { stood := { row := opsTableRow, standIns := [], harness := (true, "f78c91ad66c681330fda10b0b323a459d1666838780b620cb10d8fb3a9d26f69"), looks := false }, kinds := [], alts := [], laidByText := true, laidKinds := [.data], laidTests := true, laidLooks := .later }
def OpsTableCardSaid : Prop := Claim7.holds Tryd.pinned (.plain (OpenSpec.ofChange opsTableSpec)) opsTableCard

/-- THE TIED CARD OF 'relictlaw07.OpsSpoilt'. -/
def opsSpoiltCard : Claim7 := { stood := { row := opsSpoiltRow, standIns := [], harness := (true, "f78c91ad66c681330fda10b0b323a459d1666838780b620cb10d8fb3a9d26f69"), looks := false }, kinds := [], alts := [], laidByText := true, laidKinds := [.data], laidTests := true, laidLooks := .later }
def OpsSpoiltCardSaid : Prop := Claim7.holds Tryd.pinned (.plain (OpenSpec.ofChange opsSpoiltSpec)) opsSpoiltCard

/-- THE TIED CARD OF 'relictlaw07.OpsPairs'. -/
def opsPairsCard : Claim7 := { stood := { row := opsPairsRow, standIns := [], harness := (true, "f78c91ad66c681330fda10b0b323a459d1666838780b620cb10d8fb3a9d26f69"), looks := false }, kinds := [], alts := [], laidByText := true, laidKinds := [.data], laidTests := true, laidLooks := .later }
def OpsPairsCardSaid : Prop := Claim7.holds Tryd.pinned (.plain (OpenSpec.ofChange opsPairsSpec)) opsPairsCard

/-- THE TIED CARD OF 'relictlaw07.OpsThrows'. -/
def opsThrowsCard : Claim7 := { stood := { row := opsThrowsRow, standIns := [], harness := (true, "f78c91ad66c681330fda10b0b323a459d1666838780b620cb10d8fb3a9d26f69"), looks := false }, kinds := [], alts := [], laidByText := true, laidKinds := [.data], laidTests := true, laidLooks := .later }
def OpsThrowsCardSaid : Prop := Claim7.holds Tryd.pinned (.plain (OpenSpec.ofChange opsThrowsSpec)) opsThrowsCard

/-- THE SECOND FORM's CARD OF 'relictlaw07.OpsTable'. -/
def opsTableUptoCard : Claim7 := { stood := { row := opsTableUptoRow, standIns := [], harness := (true, "f78c91ad66c681330fda10b0b323a459d1666838780b620cb10d8fb3a9d26f69"), looks := false }, kinds := [], alts := [], laidByText := true, laidKinds := [.data], laidTests := true, laidLooks := .later }
def OpsTableUptoCardSaid : Prop := Claim7.holds Tryd.pinned (.plain (OpenSpec.upto opsTableSpec)) opsTableUptoCard

/-- THE SECOND FORM's CARD OF 'relictlaw07.OpsSpoilt'. -/
def opsSpoiltUptoCard : Claim7 := { stood := { row := opsSpoiltUptoRow, standIns := [], harness := (true, "f78c91ad66c681330fda10b0b323a459d1666838780b620cb10d8fb3a9d26f69"), looks := false }, kinds := [], alts := [], laidByText := true, laidKinds := [.data], laidTests := true, laidLooks := .later }
def OpsSpoiltUptoCardSaid : Prop := Claim7.holds Tryd.pinned (.plain (OpenSpec.upto opsSpoiltSpec)) opsSpoiltUptoCard

/-- THE SECOND FORM's CARD OF 'relictlaw07.OpsPairs'. -/
def opsPairsUptoCard : Claim7 := { stood := { row := opsPairsUptoRow, standIns := [], harness := (true, "f78c91ad66c681330fda10b0b323a459d1666838780b620cb10d8fb3a9d26f69"), looks := false }, kinds := [], alts := [], laidByText := true, laidKinds := [.data], laidTests := true, laidLooks := .later }
def OpsPairsUptoCardSaid : Prop := Claim7.holds Tryd.pinned (.plain (OpenSpec.upto opsPairsSpec)) opsPairsUptoCard

/-- THE SECOND FORM's CARD OF 'relictlaw07.OpsThrows'. -/
def opsThrowsUptoCard : Claim7 := { stood := { row := opsThrowsUptoRow, standIns := [], harness := (true, "f78c91ad66c681330fda10b0b323a459d1666838780b620cb10d8fb3a9d26f69"), looks := false }, kinds := [], alts := [], laidByText := true, laidKinds := [.data], laidTests := true, laidLooks := .later }
def OpsThrowsUptoCardSaid : Prop := Claim7.holds Tryd.pinned (.plain (OpenSpec.upto opsThrowsSpec)) opsThrowsUptoCard
end Rows
end Go.Proofs.YtbekdcalhkgdjaaDoor
