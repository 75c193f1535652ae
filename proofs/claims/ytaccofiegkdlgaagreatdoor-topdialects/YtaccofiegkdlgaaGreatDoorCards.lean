/-
  DERIVED. GIVEN WITH THE SEED: THE CARDS: each row of YtaccofiegkdlgaaGreatDoorRows.lean that lists a variable, with what it lists TIED to the program's text (the seventh form; the later family's looks); each row that meets fmt, with fmt's text TOLD by the authors' own Lean function (tested against real Go, not proved from fmt's source: count such statements apart). THE CARD IS WHAT COUNTS. Prove the row's statement (the work); the ties are given (YtaccofiegkdlgaaGreatDoorTie.lean); close each card by the builder's one call (the guide's Derived/Test/ToyasCard.lean, 'card_holds'). Laid BY PROGRAM, IN A SANDBOX (cutbox-door.mjs). By AI agents, Wed Nov 11 2026. No macro, syntax, notation, axiom, sorry.
-/
import Derived.Test.YtaccofiegkdlgaaGreatDoorRows
import GoSem.ClaimSeven
namespace Go.Proofs.YtaccofiegkdlgaaGreatDoor
namespace Rows

/-- THE TIED CARD OF 'thicketlaw.TopDialects'. -/
def topDialectsCard : Claim7 := { stood := { row := topDialectsRow, standIns := [], harness := (true, "f87b5d33fe5bf23e9308b95beffd8708775e374a3859f147a426676670ceb39b"), looks := true }, kinds := [], alts := [], laidByText := true, laidKinds := [.data], laidTests := true, laidLooks := .later }
def TopDialectsCardSaid : Prop := Claim7.holds Tryz.pinned (.plain (OpenSpec.ofChange topDialectsSpec)) topDialectsCard

/-- THE SECOND FORM's CARD OF 'thicketlaw.TopDialects'. -/
def topDialectsUptoCard : Claim7 := { stood := { row := topDialectsUptoRow, standIns := [], harness := (true, "f87b5d33fe5bf23e9308b95beffd8708775e374a3859f147a426676670ceb39b"), looks := true }, kinds := [], alts := [], laidByText := true, laidKinds := [.data], laidTests := true, laidLooks := .later }
def TopDialectsUptoCardSaid : Prop := Claim7.holds Tryz.pinned (.plain (OpenSpec.upto topDialectsSpec)) topDialectsUptoCard
end Rows
end Go.Proofs.YtaccofiegkdlgaaGreatDoor
