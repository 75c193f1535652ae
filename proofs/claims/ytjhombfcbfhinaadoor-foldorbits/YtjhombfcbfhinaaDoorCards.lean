/-
  DERIVED. GIVEN WITH THE SEED: THE CARDS: each row of YtjhombfcbfhinaaDoorRows.lean that lists a variable, with what it lists TIED to the program's text (the seventh form; the later family's looks); each row that meets fmt, with fmt's text TOLD by the authors' own Lean function (tested against real Go, not proved from fmt's source: count such statements apart). THE CARD IS WHAT COUNTS. Prove the row's statement (the work); the ties are given (YtjhombfcbfhinaaDoorTie.lean); close each card by the builder's one call (the guide's Derived/Test/ToyasCard.lean, 'card_holds'). Laid BY PROGRAM, IN A SANDBOX (cutbox-door.mjs). By AI agents, Wed Nov 11 2026. No macro, syntax, notation, axiom, sorry.
-/
import Derived.Test.YtjhombfcbfhinaaDoorRows
import GoSem.ClaimSeven
namespace Go.Proofs.YtjhombfcbfhinaaDoor
namespace Rows

/-- THE TIED CARD OF 'thicketlaw.FoldOrbits'. -/
def foldOrbitsCard : Claim7 := { stood := { row := foldOrbitsRow, standIns := [], harness := (true, "a16187ba337effe87d5bf0e14f32183fc725e1a2e65e840a43a4dd8692b8a758"), looks := false }, kinds := [], alts := [], laidByText := true, laidKinds := [.data], laidTests := true, laidLooks := .later }
def FoldOrbitsCardSaid : Prop := Claim7.holds Tryd.pinned (.plain (OpenSpec.ofChange foldOrbitsSpec)) foldOrbitsCard

/-- THE TIED CARD OF 'thicketlaw.FoldClasses'. -/
def foldClassesCard : Claim7 := { stood := { row := foldClassesRow, standIns := [], harness := (true, "a16187ba337effe87d5bf0e14f32183fc725e1a2e65e840a43a4dd8692b8a758"), looks := false }, kinds := [], alts := [], laidByText := true, laidKinds := [.data], laidTests := true, laidLooks := .later }
def FoldClassesCardSaid : Prop := Claim7.holds Tryd.pinned (.plain (OpenSpec.ofChange foldClassesSpec)) foldClassesCard

/-- THE TIED CARD OF 'thicketlaw.FoldIn'. -/
def foldInCard : Claim7 := { stood := { row := foldInRow, standIns := [], harness := (true, "a16187ba337effe87d5bf0e14f32183fc725e1a2e65e840a43a4dd8692b8a758"), looks := false }, kinds := [], alts := [], laidByText := true, laidKinds := [.data], laidTests := true, laidLooks := .later }
def FoldInCardSaid : Prop := Claim7.holds Tryd.pinned (.plain (OpenSpec.ofChange foldInSpec)) foldInCard

/-- THE TIED CARD OF 'thicketlaw.FoldOnes'. -/
def foldOnesCard : Claim7 := { stood := { row := foldOnesRow, standIns := [], harness := (true, "a16187ba337effe87d5bf0e14f32183fc725e1a2e65e840a43a4dd8692b8a758"), looks := false }, kinds := [], alts := [], laidByText := true, laidKinds := [.data], laidTests := true, laidLooks := .later }
def FoldOnesCardSaid : Prop := Claim7.holds Tryd.pinned (.plain (OpenSpec.ofChange foldOnesSpec)) foldOnesCard

/-- THE TIED CARD OF 'thicketlaw.FoldLeast'. -/
def foldLeastCard : Claim7 := { stood := { row := foldLeastRow, standIns := [], harness := (true, "a16187ba337effe87d5bf0e14f32183fc725e1a2e65e840a43a4dd8692b8a758"), looks := false }, kinds := [], alts := [], laidByText := true, laidKinds := [.data], laidTests := true, laidLooks := .later }
def FoldLeastCardSaid : Prop := Claim7.holds Tryd.pinned (.plain (OpenSpec.ofChange foldLeastSpec)) foldLeastCard

/-- THE TIED CARD OF 'thicketlaw.FoldAlike'. -/
def foldAlikeCard : Claim7 := { stood := { row := foldAlikeRow, standIns := [], harness := (true, "a16187ba337effe87d5bf0e14f32183fc725e1a2e65e840a43a4dd8692b8a758"), looks := false }, kinds := [], alts := [], laidByText := true, laidKinds := [.data], laidTests := true, laidLooks := .later }
def FoldAlikeCardSaid : Prop := Claim7.holds Tryd.pinned (.plain (OpenSpec.ofChange foldAlikeSpec)) foldAlikeCard

/-- THE SECOND FORM's CARD OF 'thicketlaw.FoldOrbits'. -/
def foldOrbitsUptoCard : Claim7 := { stood := { row := foldOrbitsUptoRow, standIns := [], harness := (true, "a16187ba337effe87d5bf0e14f32183fc725e1a2e65e840a43a4dd8692b8a758"), looks := false }, kinds := [], alts := [], laidByText := true, laidKinds := [.data], laidTests := true, laidLooks := .later }
def FoldOrbitsUptoCardSaid : Prop := Claim7.holds Tryd.pinned (.plain (OpenSpec.upto foldOrbitsSpec)) foldOrbitsUptoCard

/-- THE SECOND FORM's CARD OF 'thicketlaw.FoldClasses'. -/
def foldClassesUptoCard : Claim7 := { stood := { row := foldClassesUptoRow, standIns := [], harness := (true, "a16187ba337effe87d5bf0e14f32183fc725e1a2e65e840a43a4dd8692b8a758"), looks := false }, kinds := [], alts := [], laidByText := true, laidKinds := [.data], laidTests := true, laidLooks := .later }
def FoldClassesUptoCardSaid : Prop := Claim7.holds Tryd.pinned (.plain (OpenSpec.upto foldClassesSpec)) foldClassesUptoCard

/-- THE SECOND FORM's CARD OF 'thicketlaw.FoldIn'. -/
def foldInUptoCard : Claim7 := { stood := { row := foldInUptoRow, standIns := [], harness := (true, "a16187ba337effe87d5bf0e14f32183fc725e1a2e65e840a43a4dd8692b8a758"), looks := false }, kinds := [], alts := [], laidByText := true, laidKinds := [.data], laidTests := true, laidLooks := .later }
def FoldInUptoCardSaid : Prop := Claim7.holds Tryd.pinned (.plain (OpenSpec.upto foldInSpec)) foldInUptoCard

/-- THE SECOND FORM's CARD OF 'thicketlaw.FoldOnes'. -/
def foldOnesUptoCard : Claim7 := { stood := { row := foldOnesUptoRow, standIns := [], harness := (true, "a16187ba337effe87d5bf0e14f32183fc725e1a2e65e840a43a4dd8692b8a758"), looks := false }, kinds := [], alts := [], laidByText := true, laidKinds := [.data], laidTests := true, laidLooks := .later }
def FoldOnesUptoCardSaid : Prop := Claim7.holds Tryd.pinned (.plain (OpenSpec.upto foldOnesSpec)) foldOnesUptoCard

/-- THE SECOND FORM's CARD OF 'thicketlaw.FoldLeast'. -/
def foldLeastUptoCard : Claim7 := { stood := { row := foldLeastUptoRow, standIns := [], harness := (true, "a16187ba337effe87d5bf0e14f32183fc725e1a2e65e840a43a4dd8692b8a758"), looks := false }, kinds := [], alts := [], laidByText := true, laidKinds := [.data], laidTests := true, laidLooks := .later }
def FoldLeastUptoCardSaid : Prop := Claim7.holds Tryd.pinned (.plain (OpenSpec.upto foldLeastSpec)) foldLeastUptoCard

/-- THE SECOND FORM's CARD OF 'thicketlaw.FoldAlike'. -/
def foldAlikeUptoCard : Claim7 := { stood := { row := foldAlikeUptoRow, standIns := [], harness := (true, "a16187ba337effe87d5bf0e14f32183fc725e1a2e65e840a43a4dd8692b8a758"), looks := false }, kinds := [], alts := [], laidByText := true, laidKinds := [.data], laidTests := true, laidLooks := .later }
def FoldAlikeUptoCardSaid : Prop := Claim7.holds Tryd.pinned (.plain (OpenSpec.upto foldAlikeSpec)) foldAlikeUptoCard
end Rows
end Go.Proofs.YtjhombfcbfhinaaDoor
