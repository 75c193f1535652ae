/-
  NARROWER THAN 'FOR EVERY INPUT', by the rows' own cells (each row's printed sentence says how): CodeChecks: laid · CodeMakes: loops, laid.
  DERIVED. THE GIVEN ROWS OF THIS SEAT. 2 by the template 'for every input the law returns true; each argument reads behind the call as it read before'; 0 by the template 'total and deterministic' (their statements: YtfnndcbjklppeaaGreatDoorTotals.lean).
  GIVEN WITH THE SEED: the statements are not yours to turn. If you find one false, say at which input.
  Laid BY PROGRAM, IN A SANDBOX (cutbox-rows.mjs): the forced cells as the released guide's own fill.sh prints them over the translation 8bfaa04cd19adb4a… (all of the seat's roots in one cut). By AI agents, Wed Nov 11 2026. No macro, syntax, notation, axiom, sorry.
-/
import Derived.Test.YtfnndcbjklppeaaGreatDoorChecked
import GoSem.Claim
import GoSem.ClaimJoined
import GoSem.ClaimMapViews
import Derived.JoinedTies
import Derived.KernelRfl
namespace Go.Proofs.YtfnndcbjklppeaaGreatDoor
/- THE CELL 'sum', in the pinned program and in every row, IS THE sha256 OF THE DUMP (.gsa) THAT YtfnndcbjklppeaaGreatDoorProg.lean LOADS. Nothing in Lean hashes anything: it is a label: what it is worth is what the hold of that sum in a sandbox is worth. -/
noncomputable def Tryz.pinned : Pinned := { name := "ytfnndcbjklppeaagreatdoor", sum := "8bfaa04cd19adb4aefc84f9fcc12f7f4af772630e46cd32cc18da408cd6e9c8e", checked := Tryz.checked }
namespace Rows
def none {H : Type} : Left H := { results := [], args := [] }

/- WHAT THE LISTED PACKAGE-LEVEL VARIABLES READ AS WHEN THE CALL BEGINS. Each datum BY PROGRAM (the guide's laid-datum.mjs) off the statement by which the dump's own 'gosem.cut.vars' lays the variable. In a bare row this is a premise. The card (YtfnndcbjklppeaaGreatDoorCards.lean) ties it to the program's text. -/
def laid_thicket_fold_letters {H : Type} : DataW H := .agg [.agg [.lit (.int .i64 65), .lit (.int .i64 90), .lit (.int .i64 1), .lit (.int .i64 32)], .agg [.lit (.int .i64 192), .lit (.int .i64 214), .lit (.int .i64 1), .lit (.int .i64 32)], .agg [.lit (.int .i64 216), .lit (.int .i64 222), .lit (.int .i64 1), .lit (.int .i64 32)], .agg [.lit (.int .i64 256), .lit (.int .i64 302), .lit (.int .i64 2), .lit (.int .i64 1)], .agg [.lit (.int .i64 913), .lit (.int .i64 929), .lit (.int .i64 1), .lit (.int .i64 32)], .agg [.lit (.int .i64 931), .lit (.int .i64 939), .lit (.int .i64 1), .lit (.int .i64 32)], .agg [.lit (.int .i64 1024), .lit (.int .i64 1039), .lit (.int .i64 1), .lit (.int .i64 80)], .agg [.lit (.int .i64 1040), .lit (.int .i64 1071), .lit (.int .i64 1), .lit (.int .i64 32)], .agg [.lit (.int .i64 962), .lit (.int .i64 962), .lit (.int .i64 1), .lit (.int .i64 1)], .agg [.lit (.int .i64 181), .lit (.int .i64 181), .lit (.int .i64 1), .lit (.int .i64 775)], .agg [.lit (.int .i64 8490), .lit (.int .i64 8490), .lit (.int .i64 1), .lit (.int .i64 (-8383))], .agg [.lit (.int .i64 8491), .lit (.int .i64 8491), .lit (.int .i64 1), .lit (.int .i64 (-8262))], .agg [.lit (.int .i64 7838), .lit (.int .i64 7838), .lit (.int .i64 1), .lit (.int .i64 (-7615))]]

/-- 'thicketlaw.CodeChecks': WHATEVER THE INPUT: true; the input reads as it did. -/
def codeChecksSpec : ChangeSpec := { name := "codeChecks", fn := fun _ => fun
  | [d] => { results := [.lit (.bool true)], args := [d] }
  | _ => none }
def codeChecksRow : OpenClaim := { program := "ytfnndcbjklppeaagreatdoor", sum := "8bfaa04cd19adb4aefc84f9fcc12f7f4af772630e46cd32cc18da408cd6e9c8e", func := "thicket/thicketlaw.CodeChecks", spec := "codeChecks", unfollowed := true, recurses := true, named := ["thicket/fold.letters"], apart := false, laid := [("thicket/fold.letters", laid_thicket_fold_letters)] }
def CodeChecksSaid : Prop := codeChecksRow.holds Tryz.pinned (OpenSpec.ofChange codeChecksSpec)

/-- ITS FALSE NEIGHBOUR: 'it returns false'. Refute it at one input. -/
def codeChecksWrong : ChangeSpec := { name := "codeChecks", fn := fun _ => fun
  | [d] => { results := [.lit (.bool false)], args := [d] }
  | _ => none }
def CodeChecksWrongFalsely : Prop := codeChecksRow.holds Tryz.pinned (OpenSpec.ofChange codeChecksWrong)

/-- 'thicketlaw.CodeMakes': WHATEVER THE INPUT: true; the input reads as it did. -/
def codeMakesSpec : ChangeSpec := { name := "codeMakes", fn := fun _ => fun
  | [d] => { results := [.lit (.bool true)], args := [d] }
  | _ => none }
def codeMakesRow : OpenClaim := { program := "ytfnndcbjklppeaagreatdoor", sum := "8bfaa04cd19adb4aefc84f9fcc12f7f4af772630e46cd32cc18da408cd6e9c8e", func := "thicket/thicketlaw.CodeMakes", spec := "codeMakes", unfollowed := true, recurses := true, named := ["thicket/fold.letters"], loops := true, apart := false, laid := [("thicket/fold.letters", laid_thicket_fold_letters)] }
def CodeMakesSaid : Prop := codeMakesRow.holds Tryz.pinned (OpenSpec.ofChange codeMakesSpec)

/-- ITS FALSE NEIGHBOUR: 'it returns false'. Refute it at one input. -/
def codeMakesWrong : ChangeSpec := { name := "codeMakes", fn := fun _ => fun
  | [d] => { results := [.lit (.bool false)], args := [d] }
  | _ => none }
def CodeMakesWrongFalsely : Prop := codeMakesRow.holds Tryz.pinned (OpenSpec.ofChange codeMakesWrong)

/- THE SECOND FORM. 'bulk': how many values and letters a reading holds, each counted each time it is reached (what is shared counts as often as it is met; a slice's spare places count too). A statement '..UptoSaid' is the law's where the arguments, and the package variables that the reading takes, are together of bulk at most 1048576: NARROWER than '..Said'. Prove '..Said' where nothing that the law and all that it calls make is longer than what came in: it says more and counts as full. Else prove '..UptoSaid'. A law counts once. -/
mutual
def uptoBulk {H : Type} : DataW H → Nat
  | .lit (.string bytes) => bytes.length + 1
  | .lit _ => 1
  | .nil => 1
  | .ptr d => uptoBulk d + 1
  | .slice elems spare => uptoBulkAll elems + uptoBulkAll spare + 1
  | .agg parts => uptoBulkAll parts + 1
  | .iface _ d => uptoBulk d + 1
  | .map entries => uptoBulkEntries entries + 1
  | .held _ => 1
def uptoBulkAll {H : Type} : List (DataW H) → Nat
  | [] => 0
  | d :: r => uptoBulk d + uptoBulkAll r
def uptoBulkEntries {H : Type} : List (Lit × DataW H) → Nat
  | [] => 0
  | x :: r => uptoBulkEntry x + uptoBulkEntries r
def uptoBulkEntry {H : Type} : Lit × DataW H → Nat
  | (.string bytes, d) => bytes.length + uptoBulk d + 1
  | (_, d) => uptoBulk d + 1
 end
def uptoSmall : (H : Type) → List (DataW H) → Bool := fun _ ds => decide (uptoBulkAll ds ≤ 1048576)
def OpenSpec.upto (s : _root_.Go.ChangeSpec) : _root_.Go.OpenSpec := { _root_.Go.OpenSpec.ofChange s with cond := some uptoSmall }

/-- 'thicketlaw.CodeChecks', WHERE WHAT IT READS IS OF BULK AT MOST 1048576: true; the input reads as it did. -/
def codeChecksUptoRow : OpenClaim := { program := "ytfnndcbjklppeaagreatdoor", sum := "8bfaa04cd19adb4aefc84f9fcc12f7f4af772630e46cd32cc18da408cd6e9c8e", func := "thicket/thicketlaw.CodeChecks", spec := "codeChecks", unfollowed := true, recurses := true, named := ["thicket/fold.letters"], apart := false, laid := [("thicket/fold.letters", laid_thicket_fold_letters)], narrowed := true }
def CodeChecksUptoSaid : Prop := codeChecksUptoRow.holds Tryz.pinned (OpenSpec.upto codeChecksSpec)

/-- 'thicketlaw.CodeMakes', WHERE WHAT IT READS IS OF BULK AT MOST 1048576: true; the input reads as it did. -/
def codeMakesUptoRow : OpenClaim := { program := "ytfnndcbjklppeaagreatdoor", sum := "8bfaa04cd19adb4aefc84f9fcc12f7f4af772630e46cd32cc18da408cd6e9c8e", func := "thicket/thicketlaw.CodeMakes", spec := "codeMakes", unfollowed := true, recurses := true, named := ["thicket/fold.letters"], loops := true, apart := false, laid := [("thicket/fold.letters", laid_thicket_fold_letters)], narrowed := true }
def CodeMakesUptoSaid : Prop := codeMakesUptoRow.holds Tryz.pinned (OpenSpec.upto codeMakesSpec)

end Rows
end Go.Proofs.YtfnndcbjklppeaaGreatDoor
