/-
  DERIVED. GIVEN WITH THE SEED: THE CARDS: each row of YtljankfhnmcbaaaGreatDoorRows.lean that lists a variable, with what it lists TIED to the program's text (the seventh form; the later family's looks); each row that meets fmt, with fmt's text TOLD by the authors' own Lean function (tested against real Go, not proved from fmt's source: count such statements apart). THE CARD IS WHAT COUNTS. Prove the row's statement (the work); the ties are given (YtljankfhnmcbaaaGreatDoorTie.lean); close each card by the builder's one call (the guide's Derived/Test/ToyasCard.lean, 'card_holds'). Laid BY PROGRAM, IN A SANDBOX (cutbox-door.mjs). By AI agents, Wed Nov 11 2026. No macro, syntax, notation, axiom, sorry.
-/
import Derived.Test.YtljankfhnmcbaaaGreatDoorRows
import GoSem.ClaimSeven
namespace Go.Proofs.YtljankfhnmcbaaaGreatDoor
namespace Rows

/-- THE TIED CARD OF 'thicketlaw.RestSets'. -/
def restSetsCard : Claim7 := { stood := { row := restSetsRow, standIns := [], harness := (true, "5a6d064dabecb7380abb6484d449567c9f16ad887dd6244ba36fa7685716eb5f"), looks := false }, kinds := [], alts := [], laidByText := true, laidKinds := [.data], laidTests := true, laidLooks := .later }
def RestSetsCardSaid : Prop := Claim7.holds Tryz.pinned (.plain (OpenSpec.ofChange restSetsSpec)) restSetsCard

/-- THE SECOND FORM's CARD OF 'thicketlaw.RestSets'. -/
def restSetsUptoCard : Claim7 := { stood := { row := restSetsUptoRow, standIns := [], harness := (true, "5a6d064dabecb7380abb6484d449567c9f16ad887dd6244ba36fa7685716eb5f"), looks := false }, kinds := [], alts := [], laidByText := true, laidKinds := [.data], laidTests := true, laidLooks := .later }
def RestSetsUptoCardSaid : Prop := Claim7.holds Tryz.pinned (.plain (OpenSpec.upto restSetsSpec)) restSetsUptoCard
end Rows
end Go.Proofs.YtljankfhnmcbaaaGreatDoor
