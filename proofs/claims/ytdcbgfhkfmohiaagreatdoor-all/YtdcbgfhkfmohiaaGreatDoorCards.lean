/-
  DERIVED. GIVEN WITH THE SEED: THE CARDS: each row of YtdcbgfhkfmohiaaGreatDoorRows.lean that lists a variable, with what it lists TIED to the program's text (the seventh form; the later family's looks); each row that meets fmt, with fmt's text TOLD by the authors' own Lean function (tested against real Go, not proved from fmt's source: count such statements apart). THE CARD IS WHAT COUNTS. Prove the row's statement (the work); the ties are given (YtdcbgfhkfmohiaaGreatDoorTie.lean); close each card by the builder's one call (the guide's Derived/Test/ToyasCard.lean, 'card_holds'). Laid BY PROGRAM, IN A SANDBOX (cutbox-door.mjs). By AI agents, Wed Nov 11 2026. No macro, syntax, notation, axiom, sorry.
-/
import Derived.Test.YtdcbgfhkfmohiaaGreatDoorRows
import GoSem.ClaimSeven
namespace Go.Proofs.YtdcbgfhkfmohiaaGreatDoor
namespace Rows

/-- THE TIED CARD OF 'canopylaw.Edits'. -/
def editsCard : Claim7 := { stood := { row := editsRow, standIns := [], harness := (true, "abf6c070efe286af1cf3bd8970ec53ef17e27488ba30a75c2c08515903e67b2b"), looks := true }, kinds := [], alts := [], laidByText := true, laidKinds := [.data, .pinned], laidTests := true, laidLooks := .later }
def EditsCardSaid : Prop := Claim7.holds Tryz.pinned (.plain (OpenSpec.ofChange editsSpec)) editsCard

/-- THE TIED CARD OF 'canopylaw.Diffs'. -/
def diffsCard : Claim7 := { stood := { row := diffsRow, standIns := [], harness := (true, "abf6c070efe286af1cf3bd8970ec53ef17e27488ba30a75c2c08515903e67b2b"), looks := true }, kinds := [], alts := [], laidByText := true, laidKinds := [.data, .pinned], laidTests := true, laidLooks := .later }
def DiffsCardSaid : Prop := Claim7.holds Tryz.pinned (.plain (OpenSpec.ofChange diffsSpec)) diffsCard

/-- THE TIED CARD OF 'canopylaw.Asks'. -/
def asksCard : Claim7 := { stood := { row := asksRow, standIns := [], harness := (true, "abf6c070efe286af1cf3bd8970ec53ef17e27488ba30a75c2c08515903e67b2b"), looks := true }, kinds := [], alts := [], laidByText := true, laidKinds := [.data, .pinned], laidTests := true, laidLooks := .later }
def AsksCardSaid : Prop := Claim7.holds Tryz.pinned (.plain (OpenSpec.ofChange asksSpec)) asksCard

/-- THE TIED CARD OF 'canopykeep.Kept'. -/
def keptCard : Claim7 := { stood := { row := keptRow, standIns := [], harness := (true, "abf6c070efe286af1cf3bd8970ec53ef17e27488ba30a75c2c08515903e67b2b"), looks := true }, kinds := [], alts := [], laidByText := true, laidKinds := [.data, .pinned], laidTests := true, laidLooks := .later }
def KeptCardSaid : Prop := Claim7.holds Tryz.pinned (.plain (OpenSpec.ofChange keptSpec)) keptCard

/-- THE TIED CARD OF 'canopykeep.Edited'. -/
def editedCard : Claim7 := { stood := { row := editedRow, standIns := [], harness := (true, "abf6c070efe286af1cf3bd8970ec53ef17e27488ba30a75c2c08515903e67b2b"), looks := true }, kinds := [], alts := [], laidByText := true, laidKinds := [.data, .pinned], laidTests := true, laidLooks := .later }
def EditedCardSaid : Prop := Claim7.holds Tryz.pinned (.plain (OpenSpec.ofChange editedSpec)) editedCard

/-- THE TIED CARD OF 'canopykeep.Diffed'. -/
def diffedCard : Claim7 := { stood := { row := diffedRow, standIns := [], harness := (true, "abf6c070efe286af1cf3bd8970ec53ef17e27488ba30a75c2c08515903e67b2b"), looks := true }, kinds := [], alts := [], laidByText := true, laidKinds := [.data, .pinned], laidTests := true, laidLooks := .later }
def DiffedCardSaid : Prop := Claim7.holds Tryz.pinned (.plain (OpenSpec.ofChange diffedSpec)) diffedCard

/-- THE TIED CARD OF 'canopykeep.Found'. -/
def foundCard : Claim7 := { stood := { row := foundRow, standIns := [], harness := (true, "abf6c070efe286af1cf3bd8970ec53ef17e27488ba30a75c2c08515903e67b2b"), looks := true }, kinds := [], alts := [], laidByText := true, laidKinds := [.data, .pinned], laidTests := true, laidLooks := .later }
def FoundCardSaid : Prop := Claim7.holds Tryz.pinned (.plain (OpenSpec.ofChange foundSpec)) foundCard

/-- THE TIED CARD OF 'canopykeep.Planned'. -/
def plannedCard : Claim7 := { stood := { row := plannedRow, standIns := [], harness := (true, "abf6c070efe286af1cf3bd8970ec53ef17e27488ba30a75c2c08515903e67b2b"), looks := true }, kinds := [], alts := [], laidByText := true, laidKinds := [.data, .pinned], laidTests := true, laidLooks := .later }
def PlannedCardSaid : Prop := Claim7.holds Tryz.pinned (.plain (OpenSpec.ofChange plannedSpec)) plannedCard

/-- THE TIED CARD OF 'canopykeep.Shared'. -/
def sharedCard : Claim7 := { stood := { row := sharedRow, standIns := [], harness := (true, "abf6c070efe286af1cf3bd8970ec53ef17e27488ba30a75c2c08515903e67b2b"), looks := true }, kinds := [], alts := [], laidByText := true, laidKinds := [.data, .pinned], laidTests := true, laidLooks := .later }
def SharedCardSaid : Prop := Claim7.holds Tryz.pinned (.plain (OpenSpec.ofChange sharedSpec)) sharedCard

/-- THE TIED CARD OF 'canopylaw.All'. -/
def allCard : Claim7 := { stood := { row := allRow, standIns := [], harness := (true, "abf6c070efe286af1cf3bd8970ec53ef17e27488ba30a75c2c08515903e67b2b"), looks := true }, kinds := [], alts := [], laidByText := true, laidKinds := [.data, .pinned], laidTests := true, laidLooks := .later }
def AllCardSaid : Prop := Claim7.holds Tryz.pinned (.plain (OpenSpec.ofChange allSpec)) allCard

/-- THE SECOND FORM's CARD OF 'canopylaw.Edits'. -/
def editsUptoCard : Claim7 := { stood := { row := editsUptoRow, standIns := [], harness := (true, "abf6c070efe286af1cf3bd8970ec53ef17e27488ba30a75c2c08515903e67b2b"), looks := true }, kinds := [], alts := [], laidByText := true, laidKinds := [.data, .pinned], laidTests := true, laidLooks := .later }
def EditsUptoCardSaid : Prop := Claim7.holds Tryz.pinned (.plain (OpenSpec.upto editsSpec)) editsUptoCard

/-- THE SECOND FORM's CARD OF 'canopylaw.Diffs'. -/
def diffsUptoCard : Claim7 := { stood := { row := diffsUptoRow, standIns := [], harness := (true, "abf6c070efe286af1cf3bd8970ec53ef17e27488ba30a75c2c08515903e67b2b"), looks := true }, kinds := [], alts := [], laidByText := true, laidKinds := [.data, .pinned], laidTests := true, laidLooks := .later }
def DiffsUptoCardSaid : Prop := Claim7.holds Tryz.pinned (.plain (OpenSpec.upto diffsSpec)) diffsUptoCard

/-- THE SECOND FORM's CARD OF 'canopylaw.Asks'. -/
def asksUptoCard : Claim7 := { stood := { row := asksUptoRow, standIns := [], harness := (true, "abf6c070efe286af1cf3bd8970ec53ef17e27488ba30a75c2c08515903e67b2b"), looks := true }, kinds := [], alts := [], laidByText := true, laidKinds := [.data, .pinned], laidTests := true, laidLooks := .later }
def AsksUptoCardSaid : Prop := Claim7.holds Tryz.pinned (.plain (OpenSpec.upto asksSpec)) asksUptoCard

/-- THE SECOND FORM's CARD OF 'canopykeep.Kept'. -/
def keptUptoCard : Claim7 := { stood := { row := keptUptoRow, standIns := [], harness := (true, "abf6c070efe286af1cf3bd8970ec53ef17e27488ba30a75c2c08515903e67b2b"), looks := true }, kinds := [], alts := [], laidByText := true, laidKinds := [.data, .pinned], laidTests := true, laidLooks := .later }
def KeptUptoCardSaid : Prop := Claim7.holds Tryz.pinned (.plain (OpenSpec.upto keptSpec)) keptUptoCard

/-- THE SECOND FORM's CARD OF 'canopykeep.Edited'. -/
def editedUptoCard : Claim7 := { stood := { row := editedUptoRow, standIns := [], harness := (true, "abf6c070efe286af1cf3bd8970ec53ef17e27488ba30a75c2c08515903e67b2b"), looks := true }, kinds := [], alts := [], laidByText := true, laidKinds := [.data, .pinned], laidTests := true, laidLooks := .later }
def EditedUptoCardSaid : Prop := Claim7.holds Tryz.pinned (.plain (OpenSpec.upto editedSpec)) editedUptoCard

/-- THE SECOND FORM's CARD OF 'canopykeep.Diffed'. -/
def diffedUptoCard : Claim7 := { stood := { row := diffedUptoRow, standIns := [], harness := (true, "abf6c070efe286af1cf3bd8970ec53ef17e27488ba30a75c2c08515903e67b2b"), looks := true }, kinds := [], alts := [], laidByText := true, laidKinds := [.data, .pinned], laidTests := true, laidLooks := .later }
def DiffedUptoCardSaid : Prop := Claim7.holds Tryz.pinned (.plain (OpenSpec.upto diffedSpec)) diffedUptoCard

/-- THE SECOND FORM's CARD OF 'canopykeep.Found'. -/
def foundUptoCard : Claim7 := { stood := { row := foundUptoRow, standIns := [], harness := (true, "abf6c070efe286af1cf3bd8970ec53ef17e27488ba30a75c2c08515903e67b2b"), looks := true }, kinds := [], alts := [], laidByText := true, laidKinds := [.data, .pinned], laidTests := true, laidLooks := .later }
def FoundUptoCardSaid : Prop := Claim7.holds Tryz.pinned (.plain (OpenSpec.upto foundSpec)) foundUptoCard

/-- THE SECOND FORM's CARD OF 'canopykeep.Planned'. -/
def plannedUptoCard : Claim7 := { stood := { row := plannedUptoRow, standIns := [], harness := (true, "abf6c070efe286af1cf3bd8970ec53ef17e27488ba30a75c2c08515903e67b2b"), looks := true }, kinds := [], alts := [], laidByText := true, laidKinds := [.data, .pinned], laidTests := true, laidLooks := .later }
def PlannedUptoCardSaid : Prop := Claim7.holds Tryz.pinned (.plain (OpenSpec.upto plannedSpec)) plannedUptoCard

/-- THE SECOND FORM's CARD OF 'canopykeep.Shared'. -/
def sharedUptoCard : Claim7 := { stood := { row := sharedUptoRow, standIns := [], harness := (true, "abf6c070efe286af1cf3bd8970ec53ef17e27488ba30a75c2c08515903e67b2b"), looks := true }, kinds := [], alts := [], laidByText := true, laidKinds := [.data, .pinned], laidTests := true, laidLooks := .later }
def SharedUptoCardSaid : Prop := Claim7.holds Tryz.pinned (.plain (OpenSpec.upto sharedSpec)) sharedUptoCard

/-- THE SECOND FORM's CARD OF 'canopylaw.All'. -/
def allUptoCard : Claim7 := { stood := { row := allUptoRow, standIns := [], harness := (true, "abf6c070efe286af1cf3bd8970ec53ef17e27488ba30a75c2c08515903e67b2b"), looks := true }, kinds := [], alts := [], laidByText := true, laidKinds := [.data, .pinned], laidTests := true, laidLooks := .later }
def AllUptoCardSaid : Prop := Claim7.holds Tryz.pinned (.plain (OpenSpec.upto allSpec)) allUptoCard
end Rows
end Go.Proofs.YtdcbgfhkfmohiaaGreatDoor
