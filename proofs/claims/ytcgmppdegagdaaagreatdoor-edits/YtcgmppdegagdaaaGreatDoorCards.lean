/-
  DERIVED. GIVEN WITH THE SEED: THE CARDS: each row of YtcgmppdegagdaaaGreatDoorRows.lean that lists a variable, with what it lists TIED to the program's text (the seventh form; the later family's looks); each row that meets fmt, with fmt's text TOLD by the authors' own Lean function (tested against real Go, not proved from fmt's source: count such statements apart). THE CARD IS WHAT COUNTS. Prove the row's statement (the work); the ties are given (YtcgmppdegagdaaaGreatDoorTie.lean); close each card by the builder's one call (the guide's Derived/Test/ToyasCard.lean, 'card_holds'). Laid BY PROGRAM, IN A SANDBOX (cutbox-door.mjs). By AI agents, Wed Nov 11 2026. No macro, syntax, notation, axiom, sorry.
-/
import Derived.Test.YtcgmppdegagdaaaGreatDoorRows
import GoSem.ClaimSeven
namespace Go.Proofs.YtcgmppdegagdaaaGreatDoor
namespace Rows

/-- THE TIED CARD OF 'canopylaw.Edits'. -/
def editsCard : Claim7 := { stood := { row := editsRow, standIns := [], harness := (true, "c3614b2d6768661123caa1f733713f1b94f40508d2482388da06e7ba6bb1c779"), looks := true }, kinds := [], alts := [], laidByText := true, laidKinds := [.data, .pinned], laidTests := true, laidLooks := .later }
def EditsCardSaid : Prop := Claim7.holds Tryz.pinned (.plain (OpenSpec.ofChange editsSpec)) editsCard

/-- THE TIED CARD OF 'canopylaw.Diffs'. -/
def diffsCard : Claim7 := { stood := { row := diffsRow, standIns := [], harness := (true, "c3614b2d6768661123caa1f733713f1b94f40508d2482388da06e7ba6bb1c779"), looks := true }, kinds := [], alts := [], laidByText := true, laidKinds := [.data, .pinned], laidTests := true, laidLooks := .later }
def DiffsCardSaid : Prop := Claim7.holds Tryz.pinned (.plain (OpenSpec.ofChange diffsSpec)) diffsCard

/-- THE SECOND FORM's CARD OF 'canopylaw.Edits'. -/
def editsUptoCard : Claim7 := { stood := { row := editsUptoRow, standIns := [], harness := (true, "c3614b2d6768661123caa1f733713f1b94f40508d2482388da06e7ba6bb1c779"), looks := true }, kinds := [], alts := [], laidByText := true, laidKinds := [.data, .pinned], laidTests := true, laidLooks := .later }
def EditsUptoCardSaid : Prop := Claim7.holds Tryz.pinned (.plain (OpenSpec.upto editsSpec)) editsUptoCard

/-- THE SECOND FORM's CARD OF 'canopylaw.Diffs'. -/
def diffsUptoCard : Claim7 := { stood := { row := diffsUptoRow, standIns := [], harness := (true, "c3614b2d6768661123caa1f733713f1b94f40508d2482388da06e7ba6bb1c779"), looks := true }, kinds := [], alts := [], laidByText := true, laidKinds := [.data, .pinned], laidTests := true, laidLooks := .later }
def DiffsUptoCardSaid : Prop := Claim7.holds Tryz.pinned (.plain (OpenSpec.upto diffsSpec)) diffsUptoCard
end Rows
end Go.Proofs.YtcgmppdegagdaaaGreatDoor
