/-
  NARROWER THAN 'FOR EVERY INPUT', by the rows' own cells (each row's printed sentence says how): FoldOrbits: laid · FoldClasses: laid · FoldIn: laid · FoldOnes: laid · FoldLeast: laid · FoldAlike: laid.
  DERIVED. THE GIVEN ROWS OF THIS SEAT. 6 by the template 'for every input the law returns true; each argument reads behind the call as it read before'; 0 by the template 'total and deterministic' (their statements: YtjhombfcbfhinaaDoorTotals.lean).
  GIVEN WITH THE SEED: the statements are not yours to turn. If you find one false, say at which input.
  Laid BY PROGRAM, IN A SANDBOX (cutbox-rows.mjs): the forced cells as the released guide's own fill.sh prints them over the translation 3d5741917b81a34f… (all of the seat's roots in one cut). By AI agents, Wed Nov 11 2026. No macro, syntax, notation, axiom, sorry.
-/
import Derived.Test.YtjhombfcbfhinaaDoorChecked
import GoSem.Claim
import GoSem.ClaimJoined
import GoSem.ClaimMapViews
import Derived.JoinedTies
import Derived.KernelRfl
namespace Go.Proofs.YtjhombfcbfhinaaDoor
/- THE CELL 'sum', in the pinned program and in every row, IS THE sha256 OF THE DUMP (.gsa) THAT YtjhombfcbfhinaaDoorProg.lean LOADS. Nothing in Lean hashes anything: it is a label: what it is worth is what the hold of that sum in a sandbox is worth. -/
noncomputable def Tryd.pinned : Pinned := { name := "ytjhombfcbfhinaadoor", sum := "3d5741917b81a34f6ef0ca9115c39c5672b4f6b981e15cec75df5159e34bbd7c", checked := Tryd.checked }
namespace Rows
def none {H : Type} : Left H := { results := [], args := [] }

/- WHAT THE LISTED PACKAGE-LEVEL VARIABLES READ AS WHEN THE CALL BEGINS. Each datum BY PROGRAM (the guide's laid-datum.mjs) off the statement by which the dump's own 'gosem.cut.vars' lays the variable. In a bare row this is a premise. The card (YtjhombfcbfhinaaDoorCards.lean) ties it to the program's text. -/
def laid_thicket_fold_letters {H : Type} : DataW H := .agg [.agg [.lit (.int .i64 65), .lit (.int .i64 90), .lit (.int .i64 1), .lit (.int .i64 32)], .agg [.lit (.int .i64 192), .lit (.int .i64 214), .lit (.int .i64 1), .lit (.int .i64 32)], .agg [.lit (.int .i64 216), .lit (.int .i64 222), .lit (.int .i64 1), .lit (.int .i64 32)], .agg [.lit (.int .i64 256), .lit (.int .i64 302), .lit (.int .i64 2), .lit (.int .i64 1)], .agg [.lit (.int .i64 913), .lit (.int .i64 929), .lit (.int .i64 1), .lit (.int .i64 32)], .agg [.lit (.int .i64 931), .lit (.int .i64 939), .lit (.int .i64 1), .lit (.int .i64 32)], .agg [.lit (.int .i64 1024), .lit (.int .i64 1039), .lit (.int .i64 1), .lit (.int .i64 80)], .agg [.lit (.int .i64 1040), .lit (.int .i64 1071), .lit (.int .i64 1), .lit (.int .i64 32)], .agg [.lit (.int .i64 962), .lit (.int .i64 962), .lit (.int .i64 1), .lit (.int .i64 1)], .agg [.lit (.int .i64 181), .lit (.int .i64 181), .lit (.int .i64 1), .lit (.int .i64 775)], .agg [.lit (.int .i64 8490), .lit (.int .i64 8490), .lit (.int .i64 1), .lit (.int .i64 (-8383))], .agg [.lit (.int .i64 8491), .lit (.int .i64 8491), .lit (.int .i64 1), .lit (.int .i64 (-8262))], .agg [.lit (.int .i64 7838), .lit (.int .i64 7838), .lit (.int .i64 1), .lit (.int .i64 (-7615))]]

/-- 'thicketlaw.FoldOrbits': WHATEVER THE INPUT: true; the input reads as it did. -/
def foldOrbitsSpec : ChangeSpec := { name := "foldOrbits", fn := fun _ => fun
  | [d] => { results := [.lit (.bool true)], args := [d] }
  | _ => none }
def foldOrbitsRow : OpenClaim := { program := "ytjhombfcbfhinaadoor", sum := "3d5741917b81a34f6ef0ca9115c39c5672b4f6b981e15cec75df5159e34bbd7c", func := "thicket/thicketlaw.FoldOrbits", spec := "foldOrbits", unfollowed := true, recurses := true, named := ["thicket/fold.letters"], apart := false, laid := [("thicket/fold.letters", laid_thicket_fold_letters)] }
def FoldOrbitsSaid : Prop := foldOrbitsRow.holds Tryd.pinned (OpenSpec.ofChange foldOrbitsSpec)

/-- ITS FALSE NEIGHBOUR: 'it returns false'. Refute it at one input. -/
def foldOrbitsWrong : ChangeSpec := { name := "foldOrbits", fn := fun _ => fun
  | [d] => { results := [.lit (.bool false)], args := [d] }
  | _ => none }
def FoldOrbitsWrongFalsely : Prop := foldOrbitsRow.holds Tryd.pinned (OpenSpec.ofChange foldOrbitsWrong)

/-- 'thicketlaw.FoldClasses': WHATEVER THE INPUT: true; the input reads as it did. -/
def foldClassesSpec : ChangeSpec := { name := "foldClasses", fn := fun _ => fun
  | [d] => { results := [.lit (.bool true)], args := [d] }
  | _ => none }
def foldClassesRow : OpenClaim := { program := "ytjhombfcbfhinaadoor", sum := "3d5741917b81a34f6ef0ca9115c39c5672b4f6b981e15cec75df5159e34bbd7c", func := "thicket/thicketlaw.FoldClasses", spec := "foldClasses", unfollowed := true, recurses := true, named := ["thicket/fold.letters"], apart := false, laid := [("thicket/fold.letters", laid_thicket_fold_letters)] }
def FoldClassesSaid : Prop := foldClassesRow.holds Tryd.pinned (OpenSpec.ofChange foldClassesSpec)

/-- ITS FALSE NEIGHBOUR: 'it returns false'. Refute it at one input. -/
def foldClassesWrong : ChangeSpec := { name := "foldClasses", fn := fun _ => fun
  | [d] => { results := [.lit (.bool false)], args := [d] }
  | _ => none }
def FoldClassesWrongFalsely : Prop := foldClassesRow.holds Tryd.pinned (OpenSpec.ofChange foldClassesWrong)

/-- 'thicketlaw.FoldIn': WHATEVER THE INPUT: true; the input reads as it did. -/
def foldInSpec : ChangeSpec := { name := "foldIn", fn := fun _ => fun
  | [d1, d2] => { results := [.lit (.bool true)], args := [d1, d2] }
  | _ => none }
def foldInRow : OpenClaim := { program := "ytjhombfcbfhinaadoor", sum := "3d5741917b81a34f6ef0ca9115c39c5672b4f6b981e15cec75df5159e34bbd7c", func := "thicket/thicketlaw.FoldIn", spec := "foldIn", unfollowed := true, recurses := true, named := ["thicket/fold.letters"], apart := false, laid := [("thicket/fold.letters", laid_thicket_fold_letters)] }
def FoldInSaid : Prop := foldInRow.holds Tryd.pinned (OpenSpec.ofChange foldInSpec)

/-- ITS FALSE NEIGHBOUR: 'it returns false'. Refute it at one input. -/
def foldInWrong : ChangeSpec := { name := "foldIn", fn := fun _ => fun
  | [d1, d2] => { results := [.lit (.bool false)], args := [d1, d2] }
  | _ => none }
def FoldInWrongFalsely : Prop := foldInRow.holds Tryd.pinned (OpenSpec.ofChange foldInWrong)

/-- 'thicketlaw.FoldOnes': WHATEVER THE INPUT: true; the input reads as it did. -/
def foldOnesSpec : ChangeSpec := { name := "foldOnes", fn := fun _ => fun
  | [d] => { results := [.lit (.bool true)], args := [d] }
  | _ => none }
def foldOnesRow : OpenClaim := { program := "ytjhombfcbfhinaadoor", sum := "3d5741917b81a34f6ef0ca9115c39c5672b4f6b981e15cec75df5159e34bbd7c", func := "thicket/thicketlaw.FoldOnes", spec := "foldOnes", unfollowed := true, recurses := true, named := ["thicket/fold.letters"], apart := false, laid := [("thicket/fold.letters", laid_thicket_fold_letters)] }
def FoldOnesSaid : Prop := foldOnesRow.holds Tryd.pinned (OpenSpec.ofChange foldOnesSpec)

/-- ITS FALSE NEIGHBOUR: 'it returns false'. Refute it at one input. -/
def foldOnesWrong : ChangeSpec := { name := "foldOnes", fn := fun _ => fun
  | [d] => { results := [.lit (.bool false)], args := [d] }
  | _ => none }
def FoldOnesWrongFalsely : Prop := foldOnesRow.holds Tryd.pinned (OpenSpec.ofChange foldOnesWrong)

/-- 'thicketlaw.FoldLeast': WHATEVER THE INPUT: true; the input reads as it did. -/
def foldLeastSpec : ChangeSpec := { name := "foldLeast", fn := fun _ => fun
  | [d1, d2] => { results := [.lit (.bool true)], args := [d1, d2] }
  | _ => none }
def foldLeastRow : OpenClaim := { program := "ytjhombfcbfhinaadoor", sum := "3d5741917b81a34f6ef0ca9115c39c5672b4f6b981e15cec75df5159e34bbd7c", func := "thicket/thicketlaw.FoldLeast", spec := "foldLeast", unfollowed := true, recurses := true, named := ["thicket/fold.letters"], apart := false, laid := [("thicket/fold.letters", laid_thicket_fold_letters)] }
def FoldLeastSaid : Prop := foldLeastRow.holds Tryd.pinned (OpenSpec.ofChange foldLeastSpec)

/-- ITS FALSE NEIGHBOUR: 'it returns false'. Refute it at one input. -/
def foldLeastWrong : ChangeSpec := { name := "foldLeast", fn := fun _ => fun
  | [d1, d2] => { results := [.lit (.bool false)], args := [d1, d2] }
  | _ => none }
def FoldLeastWrongFalsely : Prop := foldLeastRow.holds Tryd.pinned (OpenSpec.ofChange foldLeastWrong)

/-- 'thicketlaw.FoldAlike': WHATEVER THE INPUT: true; the input reads as it did. -/
def foldAlikeSpec : ChangeSpec := { name := "foldAlike", fn := fun _ => fun
  | [d1, d2] => { results := [.lit (.bool true)], args := [d1, d2] }
  | _ => none }
def foldAlikeRow : OpenClaim := { program := "ytjhombfcbfhinaadoor", sum := "3d5741917b81a34f6ef0ca9115c39c5672b4f6b981e15cec75df5159e34bbd7c", func := "thicket/thicketlaw.FoldAlike", spec := "foldAlike", unfollowed := true, recurses := true, named := ["thicket/fold.letters"], apart := false, laid := [("thicket/fold.letters", laid_thicket_fold_letters)] }
def FoldAlikeSaid : Prop := foldAlikeRow.holds Tryd.pinned (OpenSpec.ofChange foldAlikeSpec)

/-- ITS FALSE NEIGHBOUR: 'it returns false'. Refute it at one input. -/
def foldAlikeWrong : ChangeSpec := { name := "foldAlike", fn := fun _ => fun
  | [d1, d2] => { results := [.lit (.bool false)], args := [d1, d2] }
  | _ => none }
def FoldAlikeWrongFalsely : Prop := foldAlikeRow.holds Tryd.pinned (OpenSpec.ofChange foldAlikeWrong)

/- THE SECOND FORM. 'bulk': how many values and letters a reading holds, each counted each time it is reached (what is shared counts as often as it is met; a slice's spare places count too). A statement '..UptoSaid' is the law's where the arguments, and the package variables that the reading takes, are together of bulk at most 1048576: NARROWER than '..Said'. Prove '..Said' where nothing that the law and all that it calls make is longer than what came in: it says more and counts as full. Else prove '..UptoSaid'. A law counts once. -/
mutual
def uptoBulk {H : Type} : DataW H → Nat
  | .lit (.string bytes) => bytes.length + 1
  | .lit _ => 1
  | .nil => 1
  | .ptr d => uptoBulk d + 1
  | .slice elems spare => uptoBulkAll elems + uptoBulkAll spare + 1
  | .agg parts => uptoBulkAll parts + 1
  | .iface _ d => uptoBulk d + 1
  | .map entries => uptoBulkEntries entries + 1
  | .held _ => 1
def uptoBulkAll {H : Type} : List (DataW H) → Nat
  | [] => 0
  | d :: r => uptoBulk d + uptoBulkAll r
def uptoBulkEntries {H : Type} : List (Lit × DataW H) → Nat
  | [] => 0
  | x :: r => uptoBulkEntry x + uptoBulkEntries r
def uptoBulkEntry {H : Type} : Lit × DataW H → Nat
  | (.string bytes, d) => bytes.length + uptoBulk d + 1
  | (_, d) => uptoBulk d + 1
 end
def uptoSmall : (H : Type) → List (DataW H) → Bool := fun _ ds => decide (uptoBulkAll ds ≤ 1048576)
def OpenSpec.upto (s : _root_.Go.ChangeSpec) : _root_.Go.OpenSpec := { _root_.Go.OpenSpec.ofChange s with cond := some uptoSmall }

/-- 'thicketlaw.FoldOrbits', WHERE WHAT IT READS IS OF BULK AT MOST 1048576: true; the input reads as it did. -/
def foldOrbitsUptoRow : OpenClaim := { program := "ytjhombfcbfhinaadoor", sum := "3d5741917b81a34f6ef0ca9115c39c5672b4f6b981e15cec75df5159e34bbd7c", func := "thicket/thicketlaw.FoldOrbits", spec := "foldOrbits", unfollowed := true, recurses := true, named := ["thicket/fold.letters"], apart := false, laid := [("thicket/fold.letters", laid_thicket_fold_letters)], narrowed := true }
def FoldOrbitsUptoSaid : Prop := foldOrbitsUptoRow.holds Tryd.pinned (OpenSpec.upto foldOrbitsSpec)

/-- 'thicketlaw.FoldClasses', WHERE WHAT IT READS IS OF BULK AT MOST 1048576: true; the input reads as it did. -/
def foldClassesUptoRow : OpenClaim := { program := "ytjhombfcbfhinaadoor", sum := "3d5741917b81a34f6ef0ca9115c39c5672b4f6b981e15cec75df5159e34bbd7c", func := "thicket/thicketlaw.FoldClasses", spec := "foldClasses", unfollowed := true, recurses := true, named := ["thicket/fold.letters"], apart := false, laid := [("thicket/fold.letters", laid_thicket_fold_letters)], narrowed := true }
def FoldClassesUptoSaid : Prop := foldClassesUptoRow.holds Tryd.pinned (OpenSpec.upto foldClassesSpec)

/-- 'thicketlaw.FoldIn', WHERE WHAT IT READS IS OF BULK AT MOST 1048576: true; the input reads as it did. -/
def foldInUptoRow : OpenClaim := { program := "ytjhombfcbfhinaadoor", sum := "3d5741917b81a34f6ef0ca9115c39c5672b4f6b981e15cec75df5159e34bbd7c", func := "thicket/thicketlaw.FoldIn", spec := "foldIn", unfollowed := true, recurses := true, named := ["thicket/fold.letters"], apart := false, laid := [("thicket/fold.letters", laid_thicket_fold_letters)], narrowed := true }
def FoldInUptoSaid : Prop := foldInUptoRow.holds Tryd.pinned (OpenSpec.upto foldInSpec)

/-- 'thicketlaw.FoldOnes', WHERE WHAT IT READS IS OF BULK AT MOST 1048576: true; the input reads as it did. -/
def foldOnesUptoRow : OpenClaim := { program := "ytjhombfcbfhinaadoor", sum := "3d5741917b81a34f6ef0ca9115c39c5672b4f6b981e15cec75df5159e34bbd7c", func := "thicket/thicketlaw.FoldOnes", spec := "foldOnes", unfollowed := true, recurses := true, named := ["thicket/fold.letters"], apart := false, laid := [("thicket/fold.letters", laid_thicket_fold_letters)], narrowed := true }
def FoldOnesUptoSaid : Prop := foldOnesUptoRow.holds Tryd.pinned (OpenSpec.upto foldOnesSpec)

/-- 'thicketlaw.FoldLeast', WHERE WHAT IT READS IS OF BULK AT MOST 1048576: true; the input reads as it did. -/
def foldLeastUptoRow : OpenClaim := { program := "ytjhombfcbfhinaadoor", sum := "3d5741917b81a34f6ef0ca9115c39c5672b4f6b981e15cec75df5159e34bbd7c", func := "thicket/thicketlaw.FoldLeast", spec := "foldLeast", unfollowed := true, recurses := true, named := ["thicket/fold.letters"], apart := false, laid := [("thicket/fold.letters", laid_thicket_fold_letters)], narrowed := true }
def FoldLeastUptoSaid : Prop := foldLeastUptoRow.holds Tryd.pinned (OpenSpec.upto foldLeastSpec)

/-- 'thicketlaw.FoldAlike', WHERE WHAT IT READS IS OF BULK AT MOST 1048576: true; the input reads as it did. -/
def foldAlikeUptoRow : OpenClaim := { program := "ytjhombfcbfhinaadoor", sum := "3d5741917b81a34f6ef0ca9115c39c5672b4f6b981e15cec75df5159e34bbd7c", func := "thicket/thicketlaw.FoldAlike", spec := "foldAlike", unfollowed := true, recurses := true, named := ["thicket/fold.letters"], apart := false, laid := [("thicket/fold.letters", laid_thicket_fold_letters)], narrowed := true }
def FoldAlikeUptoSaid : Prop := foldAlikeUptoRow.holds Tryd.pinned (OpenSpec.upto foldAlikeSpec)

end Rows
end Go.Proofs.YtjhombfcbfhinaaDoor
