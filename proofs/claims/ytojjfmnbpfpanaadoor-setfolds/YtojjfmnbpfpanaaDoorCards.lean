/-
  DERIVED. GIVEN WITH THE SEED: THE CARDS: each row of YtojjfmnbpfpanaaDoorRows.lean that lists a variable, with what it lists TIED to the program's text (the seventh form; the later family's looks); each row that meets fmt, with fmt's text TOLD by the authors' own Lean function (tested against real Go, not proved from fmt's source: count such statements apart). THE CARD IS WHAT COUNTS. Prove the row's statement (the work); the ties are given (YtojjfmnbpfpanaaDoorTie.lean); close each card by the builder's one call (the guide's Derived/Test/ToyasCard.lean, 'card_holds'). Laid BY PROGRAM, IN A SANDBOX (cutbox-door.mjs). By AI agents, Wed Nov 11 2026. No macro, syntax, notation, axiom, sorry.
-/
import Derived.Test.YtojjfmnbpfpanaaDoorRows
import GoSem.ClaimSeven
namespace Go.Proofs.YtojjfmnbpfpanaaDoor
namespace Rows

/-- THE TIED CARD OF 'thicketlaw.SetFolds'. -/
def setFoldsCard : Claim7 := { stood := { row := setFoldsRow, standIns := [], harness := (true, "c938ad28575a605a4b32b6dc186068bcc0bdfb3fb61900ea519cdecb54a62ce6"), looks := false }, kinds := [], alts := [], laidByText := true, laidKinds := [.data], laidTests := true, laidLooks := .later }
def SetFoldsCardSaid : Prop := Claim7.holds Tryd.pinned (.plain (OpenSpec.ofChange setFoldsSpec)) setFoldsCard

/-- THE TIED CARD OF 'thicketlaw.SetFoldsOnce'. -/
def setFoldsOnceCard : Claim7 := { stood := { row := setFoldsOnceRow, standIns := [], harness := (true, "c938ad28575a605a4b32b6dc186068bcc0bdfb3fb61900ea519cdecb54a62ce6"), looks := false }, kinds := [], alts := [], laidByText := true, laidKinds := [.data], laidTests := true, laidLooks := .later }
def SetFoldsOnceCardSaid : Prop := Claim7.holds Tryd.pinned (.plain (OpenSpec.ofChange setFoldsOnceSpec)) setFoldsOnceCard

/-- THE SECOND FORM's CARD OF 'thicketlaw.SetFolds'. -/
def setFoldsUptoCard : Claim7 := { stood := { row := setFoldsUptoRow, standIns := [], harness := (true, "c938ad28575a605a4b32b6dc186068bcc0bdfb3fb61900ea519cdecb54a62ce6"), looks := false }, kinds := [], alts := [], laidByText := true, laidKinds := [.data], laidTests := true, laidLooks := .later }
def SetFoldsUptoCardSaid : Prop := Claim7.holds Tryd.pinned (.plain (OpenSpec.upto setFoldsSpec)) setFoldsUptoCard

/-- THE SECOND FORM's CARD OF 'thicketlaw.SetFoldsOnce'. -/
def setFoldsOnceUptoCard : Claim7 := { stood := { row := setFoldsOnceUptoRow, standIns := [], harness := (true, "c938ad28575a605a4b32b6dc186068bcc0bdfb3fb61900ea519cdecb54a62ce6"), looks := false }, kinds := [], alts := [], laidByText := true, laidKinds := [.data], laidTests := true, laidLooks := .later }
def SetFoldsOnceUptoCardSaid : Prop := Claim7.holds Tryd.pinned (.plain (OpenSpec.upto setFoldsOnceSpec)) setFoldsOnceUptoCard
end Rows
end Go.Proofs.YtojjfmnbpfpanaaDoor
