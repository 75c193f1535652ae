/-
  NARROWER THAN 'FOR EVERY INPUT', by the rows' own cells (each row's printed sentence says how): SetFolds: laid · SetFoldsOnce: laid.
  DERIVED. THE GIVEN ROWS OF THIS SEAT. 2 by the template 'for every input the law returns true; each argument reads behind the call as it read before'; 0 by the template 'total and deterministic' (their statements: YtojjfmnbpfpanaaDoorTotals.lean).
  GIVEN WITH THE SEED: the statements are not yours to turn. If you find one false, say at which input.
  Laid BY PROGRAM, IN A SANDBOX (cutbox-rows.mjs): the forced cells as the released guide's own fill.sh prints them over the translation b6625a058031d729… (all of the seat's roots in one cut). By AI agents, Wed Nov 11 2026. No macro, syntax, notation, axiom, sorry.
-/
import Derived.Test.YtojjfmnbpfpanaaDoorChecked
import GoSem.Claim
import GoSem.ClaimJoined
import GoSem.ClaimMapViews
import Derived.JoinedTies
import Derived.KernelRfl
namespace Go.Proofs.YtojjfmnbpfpanaaDoor
/- THE CELL 'sum', in the pinned program and in every row, IS THE sha256 OF THE DUMP (.gsa) THAT YtojjfmnbpfpanaaDoorProg.lean LOADS. Nothing in Lean hashes anything: it is a label: what it is worth is what the hold of that sum in a sandbox is worth. -/
noncomputable def Tryd.pinned : Pinned := { name := "ytojjfmnbpfpanaadoor", sum := "b6625a058031d72992c745c70ab0a7a72345e0891eea55e32bd0824c0e3db552", checked := Tryd.checked }
namespace Rows
def none {H : Type} : Left H := { results := [], args := [] }

/- WHAT THE LISTED PACKAGE-LEVEL VARIABLES READ AS WHEN THE CALL BEGINS. Each datum BY PROGRAM (the guide's laid-datum.mjs) off the statement by which the dump's own 'gosem.cut.vars' lays the variable. In a bare row this is a premise. The card (YtojjfmnbpfpanaaDoorCards.lean) ties it to the program's text. -/
def laid_thicket_fold_letters {H : Type} : DataW H := .agg [.agg [.lit (.int .i64 65), .lit (.int .i64 90), .lit (.int .i64 1), .lit (.int .i64 32)], .agg [.lit (.int .i64 192), .lit (.int .i64 214), .lit (.int .i64 1), .lit (.int .i64 32)], .agg [.lit (.int .i64 216), .lit (.int .i64 222), .lit (.int .i64 1), .lit (.int .i64 32)], .agg [.lit (.int .i64 256), .lit (.int .i64 302), .lit (.int .i64 2), .lit (.int .i64 1)], .agg [.lit (.int .i64 913), .lit (.int .i64 929), .lit (.int .i64 1), .lit (.int .i64 32)], .agg [.lit (.int .i64 931), .lit (.int .i64 939), .lit (.int .i64 1), .lit (.int .i64 32)], .agg [.lit (.int .i64 1024), .lit (.int .i64 1039), .lit (.int .i64 1), .lit (.int .i64 80)], .agg [.lit (.int .i64 1040), .lit (.int .i64 1071), .lit (.int .i64 1), .lit (.int .i64 32)], .agg [.lit (.int .i64 962), .lit (.int .i64 962), .lit (.int .i64 1), .lit (.int .i64 1)], .agg [.lit (.int .i64 181), .lit (.int .i64 181), .lit (.int .i64 1), .lit (.int .i64 775)], .agg [.lit (.int .i64 8490), .lit (.int .i64 8490), .lit (.int .i64 1), .lit (.int .i64 (-8383))], .agg [.lit (.int .i64 8491), .lit (.int .i64 8491), .lit (.int .i64 1), .lit (.int .i64 (-8262))], .agg [.lit (.int .i64 7838), .lit (.int .i64 7838), .lit (.int .i64 1), .lit (.int .i64 (-7615))]]

/-- 'thicketlaw.SetFolds': WHATEVER THE INPUT: true; the input reads as it did. -/
def setFoldsSpec : ChangeSpec := { name := "setFolds", fn := fun _ => fun
  | [d] => { results := [.lit (.bool true)], args := [d] }
  | _ => none }
def setFoldsRow : OpenClaim := { program := "ytojjfmnbpfpanaadoor", sum := "b6625a058031d72992c745c70ab0a7a72345e0891eea55e32bd0824c0e3db552", func := "thicket/thicketlaw.SetFolds", spec := "setFolds", unfollowed := true, recurses := true, named := ["thicket/fold.letters"], apart := false, laid := [("thicket/fold.letters", laid_thicket_fold_letters)] }
def SetFoldsSaid : Prop := setFoldsRow.holds Tryd.pinned (OpenSpec.ofChange setFoldsSpec)

/-- ITS FALSE NEIGHBOUR: 'it returns false'. Refute it at one input. -/
def setFoldsWrong : ChangeSpec := { name := "setFolds", fn := fun _ => fun
  | [d] => { results := [.lit (.bool false)], args := [d] }
  | _ => none }
def SetFoldsWrongFalsely : Prop := setFoldsRow.holds Tryd.pinned (OpenSpec.ofChange setFoldsWrong)

/-- 'thicketlaw.SetFoldsOnce': WHATEVER THE INPUT: true; the input reads as it did. -/
def setFoldsOnceSpec : ChangeSpec := { name := "setFoldsOnce", fn := fun _ => fun
  | [d] => { results := [.lit (.bool true)], args := [d] }
  | _ => none }
def setFoldsOnceRow : OpenClaim := { program := "ytojjfmnbpfpanaadoor", sum := "b6625a058031d72992c745c70ab0a7a72345e0891eea55e32bd0824c0e3db552", func := "thicket/thicketlaw.SetFoldsOnce", spec := "setFoldsOnce", unfollowed := true, recurses := true, named := ["thicket/fold.letters"], apart := false, laid := [("thicket/fold.letters", laid_thicket_fold_letters)] }
def SetFoldsOnceSaid : Prop := setFoldsOnceRow.holds Tryd.pinned (OpenSpec.ofChange setFoldsOnceSpec)

/-- ITS FALSE NEIGHBOUR: 'it returns false'. Refute it at one input. -/
def setFoldsOnceWrong : ChangeSpec := { name := "setFoldsOnce", fn := fun _ => fun
  | [d] => { results := [.lit (.bool false)], args := [d] }
  | _ => none }
def SetFoldsOnceWrongFalsely : Prop := setFoldsOnceRow.holds Tryd.pinned (OpenSpec.ofChange setFoldsOnceWrong)

/- THE SECOND FORM. 'bulk': how many values and letters a reading holds, each counted each time it is reached (what is shared counts as often as it is met; a slice's spare places count too). A statement '..UptoSaid' is the law's where the arguments, and the package variables that the reading takes, are together of bulk at most 1048576: NARROWER than '..Said'. Prove '..Said' where nothing that the law and all that it calls make is longer than what came in: it says more and counts as full. Else prove '..UptoSaid'. A law counts once. -/
mutual
def uptoBulk {H : Type} : DataW H → Nat
  | .lit (.string bytes) => bytes.length + 1
  | .lit _ => 1
  | .nil => 1
  | .ptr d => uptoBulk d + 1
  | .slice elems spare => uptoBulkAll elems + uptoBulkAll spare + 1
  | .agg parts => uptoBulkAll parts + 1
  | .iface _ d => uptoBulk d + 1
  | .map entries => uptoBulkEntries entries + 1
  | .held _ => 1
def uptoBulkAll {H : Type} : List (DataW H) → Nat
  | [] => 0
  | d :: r => uptoBulk d + uptoBulkAll r
def uptoBulkEntries {H : Type} : List (Lit × DataW H) → Nat
  | [] => 0
  | x :: r => uptoBulkEntry x + uptoBulkEntries r
def uptoBulkEntry {H : Type} : Lit × DataW H → Nat
  | (.string bytes, d) => bytes.length + uptoBulk d + 1
  | (_, d) => uptoBulk d + 1
 end
def uptoSmall : (H : Type) → List (DataW H) → Bool := fun _ ds => decide (uptoBulkAll ds ≤ 1048576)
def OpenSpec.upto (s : _root_.Go.ChangeSpec) : _root_.Go.OpenSpec := { _root_.Go.OpenSpec.ofChange s with cond := some uptoSmall }

/-- 'thicketlaw.SetFolds', WHERE WHAT IT READS IS OF BULK AT MOST 1048576: true; the input reads as it did. -/
def setFoldsUptoRow : OpenClaim := { program := "ytojjfmnbpfpanaadoor", sum := "b6625a058031d72992c745c70ab0a7a72345e0891eea55e32bd0824c0e3db552", func := "thicket/thicketlaw.SetFolds", spec := "setFolds", unfollowed := true, recurses := true, named := ["thicket/fold.letters"], apart := false, laid := [("thicket/fold.letters", laid_thicket_fold_letters)], narrowed := true }
def SetFoldsUptoSaid : Prop := setFoldsUptoRow.holds Tryd.pinned (OpenSpec.upto setFoldsSpec)

/-- 'thicketlaw.SetFoldsOnce', WHERE WHAT IT READS IS OF BULK AT MOST 1048576: true; the input reads as it did. -/
def setFoldsOnceUptoRow : OpenClaim := { program := "ytojjfmnbpfpanaadoor", sum := "b6625a058031d72992c745c70ab0a7a72345e0891eea55e32bd0824c0e3db552", func := "thicket/thicketlaw.SetFoldsOnce", spec := "setFoldsOnce", unfollowed := true, recurses := true, named := ["thicket/fold.letters"], apart := false, laid := [("thicket/fold.letters", laid_thicket_fold_letters)], narrowed := true }
def SetFoldsOnceUptoSaid : Prop := setFoldsOnceUptoRow.holds Tryd.pinned (OpenSpec.upto setFoldsOnceSpec)

end Rows
end Go.Proofs.YtojjfmnbpfpanaaDoor
