/-
  DERIVED. GIVEN WITH THE SEED: THE CARDS: each row of YtpggffmfeahhaaaGreatDoorRows.lean that lists a variable, with what it lists TIED to the program's text (the seventh form; the later family's looks); each row that meets fmt, with fmt's text TOLD by the authors' own Lean function (tested against real Go, not proved from fmt's source: count such statements apart). THE CARD IS WHAT COUNTS. Prove the row's statement (the work); the ties are given (YtpggffmfeahhaaaGreatDoorTie.lean); close each card by the builder's one call (the guide's Derived/Test/ToyasCard.lean, 'card_holds'). Laid BY PROGRAM, IN A SANDBOX (cutbox-door.mjs). By AI agents, Wed Nov 11 2026. No macro, syntax, notation, axiom, sorry.
-/
import Derived.Test.YtpggffmfeahhaaaGreatDoorRows
import GoSem.ClaimSeven
namespace Go.Proofs.YtpggffmfeahhaaaGreatDoor
namespace Rows

/-- THE TIED CARD OF 'thicketlaw.BracketTurns'. -/
def bracketTurnsCard : Claim7 := { stood := { row := bracketTurnsRow, standIns := [], harness := (true, "f3c528c890aff29477d88397b46e7f1db06aa79539432861c7d846b19fb140f7"), looks := true }, kinds := [], alts := [], laidByText := true, laidKinds := [.data], laidTests := true, laidLooks := .later }
def BracketTurnsCardSaid : Prop := Claim7.holds Tryz.pinned (.plain (OpenSpec.ofChange bracketTurnsSpec)) bracketTurnsCard

/-- THE TIED CARD OF 'thicketlaw.BracketOnes'. -/
def bracketOnesCard : Claim7 := { stood := { row := bracketOnesRow, standIns := [], harness := (true, "f3c528c890aff29477d88397b46e7f1db06aa79539432861c7d846b19fb140f7"), looks := true }, kinds := [], alts := [], laidByText := true, laidKinds := [.data], laidTests := true, laidLooks := .later }
def BracketOnesCardSaid : Prop := Claim7.holds Tryz.pinned (.plain (OpenSpec.ofChange bracketOnesSpec)) bracketOnesCard

/-- THE TIED CARD OF 'thicketlaw.BracketFolds'. -/
def bracketFoldsCard : Claim7 := { stood := { row := bracketFoldsRow, standIns := [], harness := (true, "f3c528c890aff29477d88397b46e7f1db06aa79539432861c7d846b19fb140f7"), looks := true }, kinds := [], alts := [], laidByText := true, laidKinds := [.data], laidTests := true, laidLooks := .later }
def BracketFoldsCardSaid : Prop := Claim7.holds Tryz.pinned (.plain (OpenSpec.ofChange bracketFoldsSpec)) bracketFoldsCard

/-- THE SECOND FORM's CARD OF 'thicketlaw.BracketTurns'. -/
def bracketTurnsUptoCard : Claim7 := { stood := { row := bracketTurnsUptoRow, standIns := [], harness := (true, "f3c528c890aff29477d88397b46e7f1db06aa79539432861c7d846b19fb140f7"), looks := true }, kinds := [], alts := [], laidByText := true, laidKinds := [.data], laidTests := true, laidLooks := .later }
def BracketTurnsUptoCardSaid : Prop := Claim7.holds Tryz.pinned (.plain (OpenSpec.upto bracketTurnsSpec)) bracketTurnsUptoCard

/-- THE SECOND FORM's CARD OF 'thicketlaw.BracketOnes'. -/
def bracketOnesUptoCard : Claim7 := { stood := { row := bracketOnesUptoRow, standIns := [], harness := (true, "f3c528c890aff29477d88397b46e7f1db06aa79539432861c7d846b19fb140f7"), looks := true }, kinds := [], alts := [], laidByText := true, laidKinds := [.data], laidTests := true, laidLooks := .later }
def BracketOnesUptoCardSaid : Prop := Claim7.holds Tryz.pinned (.plain (OpenSpec.upto bracketOnesSpec)) bracketOnesUptoCard

/-- THE SECOND FORM's CARD OF 'thicketlaw.BracketFolds'. -/
def bracketFoldsUptoCard : Claim7 := { stood := { row := bracketFoldsUptoRow, standIns := [], harness := (true, "f3c528c890aff29477d88397b46e7f1db06aa79539432861c7d846b19fb140f7"), looks := true }, kinds := [], alts := [], laidByText := true, laidKinds := [.data], laidTests := true, laidLooks := .later }
def BracketFoldsUptoCardSaid : Prop := Claim7.holds Tryz.pinned (.plain (OpenSpec.upto bracketFoldsSpec)) bracketFoldsUptoCard
end Rows
end Go.Proofs.YtpggffmfeahhaaaGreatDoor
