/-
  No cell of these rows narrows 'for every input' (looked for: loops, veiled, ifaces, maps, wideKeys, modest, calm, conditions, laid).
  DERIVED. THE GIVEN ROWS OF THIS SEAT. 5 by the template 'for every input the law returns true; each argument reads behind the call as it read before'; 0 by the template 'total and deterministic' (their statements: YtlapnhjkhpgklaaTotals.lean).
  GIVEN WITH THE SEED: the statements are not yours to turn. If you find one false, say at which input.
  Laid BY PROGRAM, IN A SANDBOX (cutbox-rows.mjs): the forced cells as the released guide's own fill.sh prints them over the translation 9643fe68833005da… (all of the seat's roots in one cut). By AI agents, Wed Nov 11 2026. No macro, syntax, notation, axiom, sorry.
-/
import Derived.Test.YtlapnhjkhpgklaaChecked
import GoSem.Claim
import GoSem.ClaimJoined
import GoSem.ClaimMapViews
import Derived.JoinedTies
import Derived.KernelRfl
namespace Go.Proofs.Ytlapnhjkhpgklaa
/- THE CELL 'sum', in the pinned program and in every row, IS THE sha256 OF THE DUMP (.gsa) THAT YtlapnhjkhpgklaaProg.lean LOADS. Nothing in Lean hashes anything: it is a label: what it is worth is what the hold of that sum in a sandbox is worth. -/
noncomputable def Try.pinned : Pinned := { name := "ytlapnhjkhpgklaa", sum := "9643fe68833005dadaa74c46d501827bfa0221380cb3e47ce47075ec635d4f15", checked := Try.checked }
namespace Rows
def none {H : Type} : Left H := { results := [], args := [] }

/-- 'thicketlaw.TokenNexts': WHATEVER THE INPUT: true; the input reads as it did. -/
def tokenNextsSpec : ChangeSpec := { name := "tokenNexts", fn := fun _ => fun
  | [d1, d2, d3] => { results := [.lit (.bool true)], args := [d1, d2, d3] }
  | _ => none }
def tokenNextsRow : OpenClaim := { program := "ytlapnhjkhpgklaa", sum := "9643fe68833005dadaa74c46d501827bfa0221380cb3e47ce47075ec635d4f15", func := "thicket/thicketlaw.TokenNexts", spec := "tokenNexts", unfollowed := true, recurses := true, apart := false }
def TokenNextsSaid : Prop := tokenNextsRow.holds Try.pinned (OpenSpec.ofChange tokenNextsSpec)

/-- ITS FALSE NEIGHBOUR: 'it returns false'. Refute it at one input. -/
def tokenNextsWrong : ChangeSpec := { name := "tokenNexts", fn := fun _ => fun
  | [d1, d2, d3] => { results := [.lit (.bool false)], args := [d1, d2, d3] }
  | _ => none }
def TokenNextsWrongFalsely : Prop := tokenNextsRow.holds Try.pinned (OpenSpec.ofChange tokenNextsWrong)

/-- 'thicketlaw.TokenAlls': WHATEVER THE INPUT: true; the input reads as it did. -/
def tokenAllsSpec : ChangeSpec := { name := "tokenAlls", fn := fun _ => fun
  | [d1, d2] => { results := [.lit (.bool true)], args := [d1, d2] }
  | _ => none }
def tokenAllsRow : OpenClaim := { program := "ytlapnhjkhpgklaa", sum := "9643fe68833005dadaa74c46d501827bfa0221380cb3e47ce47075ec635d4f15", func := "thicket/thicketlaw.TokenAlls", spec := "tokenAlls", unfollowed := true, recurses := true, apart := false }
def TokenAllsSaid : Prop := tokenAllsRow.holds Try.pinned (OpenSpec.ofChange tokenAllsSpec)

/-- ITS FALSE NEIGHBOUR: 'it returns false'. Refute it at one input. -/
def tokenAllsWrong : ChangeSpec := { name := "tokenAlls", fn := fun _ => fun
  | [d1, d2] => { results := [.lit (.bool false)], args := [d1, d2] }
  | _ => none }
def TokenAllsWrongFalsely : Prop := tokenAllsRow.holds Try.pinned (OpenSpec.ofChange tokenAllsWrong)

/-- 'thicketlaw.TokenMoves': WHATEVER THE INPUT: true; the input reads as it did. -/
def tokenMovesSpec : ChangeSpec := { name := "tokenMoves", fn := fun _ => fun
  | [d1, d2, d3] => { results := [.lit (.bool true)], args := [d1, d2, d3] }
  | _ => none }
def tokenMovesRow : OpenClaim := { program := "ytlapnhjkhpgklaa", sum := "9643fe68833005dadaa74c46d501827bfa0221380cb3e47ce47075ec635d4f15", func := "thicket/thicketlaw.TokenMoves", spec := "tokenMoves", unfollowed := true, recurses := true, apart := false }
def TokenMovesSaid : Prop := tokenMovesRow.holds Try.pinned (OpenSpec.ofChange tokenMovesSpec)

/-- ITS FALSE NEIGHBOUR: 'it returns false'. Refute it at one input. -/
def tokenMovesWrong : ChangeSpec := { name := "tokenMoves", fn := fun _ => fun
  | [d1, d2, d3] => { results := [.lit (.bool false)], args := [d1, d2, d3] }
  | _ => none }
def TokenMovesWrongFalsely : Prop := tokenMovesRow.holds Try.pinned (OpenSpec.ofChange tokenMovesWrong)

/-- 'thicketlaw.TokenPlain': WHATEVER THE INPUT: true; the input reads as it did. -/
def tokenPlainSpec : ChangeSpec := { name := "tokenPlain", fn := fun _ => fun
  | [d1, d2] => { results := [.lit (.bool true)], args := [d1, d2] }
  | _ => none }
def tokenPlainRow : OpenClaim := { program := "ytlapnhjkhpgklaa", sum := "9643fe68833005dadaa74c46d501827bfa0221380cb3e47ce47075ec635d4f15", func := "thicket/thicketlaw.TokenPlain", spec := "tokenPlain", unfollowed := true, recurses := true, apart := false }
def TokenPlainSaid : Prop := tokenPlainRow.holds Try.pinned (OpenSpec.ofChange tokenPlainSpec)

/-- ITS FALSE NEIGHBOUR: 'it returns false'. Refute it at one input. -/
def tokenPlainWrong : ChangeSpec := { name := "tokenPlain", fn := fun _ => fun
  | [d1, d2] => { results := [.lit (.bool false)], args := [d1, d2] }
  | _ => none }
def TokenPlainWrongFalsely : Prop := tokenPlainRow.holds Try.pinned (OpenSpec.ofChange tokenPlainWrong)

/-- 'thicketlaw.TokenGreedy': WHATEVER THE INPUT: true; the input reads as it did. -/
def tokenGreedySpec : ChangeSpec := { name := "tokenGreedy", fn := fun _ => fun
  | [d1, d2] => { results := [.lit (.bool true)], args := [d1, d2] }
  | _ => none }
def tokenGreedyRow : OpenClaim := { program := "ytlapnhjkhpgklaa", sum := "9643fe68833005dadaa74c46d501827bfa0221380cb3e47ce47075ec635d4f15", func := "thicket/thicketlaw.TokenGreedy", spec := "tokenGreedy", unfollowed := true, recurses := true, apart := false }
def TokenGreedySaid : Prop := tokenGreedyRow.holds Try.pinned (OpenSpec.ofChange tokenGreedySpec)

/-- ITS FALSE NEIGHBOUR: 'it returns false'. Refute it at one input. -/
def tokenGreedyWrong : ChangeSpec := { name := "tokenGreedy", fn := fun _ => fun
  | [d1, d2] => { results := [.lit (.bool false)], args := [d1, d2] }
  | _ => none }
def TokenGreedyWrongFalsely : Prop := tokenGreedyRow.holds Try.pinned (OpenSpec.ofChange tokenGreedyWrong)

/- THE SECOND FORM. 'bulk': how many values and letters a reading holds, each counted each time it is reached (what is shared counts as often as it is met; a slice's spare places count too). A statement '..UptoSaid' is the law's where the arguments, and the package variables that the reading takes, are together of bulk at most 1048576: NARROWER than '..Said'. Prove '..Said' where nothing that the law and all that it calls make is longer than what came in: it says more and counts as full. Else prove '..UptoSaid'. A law counts once. -/
mutual
def uptoBulk {H : Type} : DataW H → Nat
  | .lit (.string bytes) => bytes.length + 1
  | .lit _ => 1
  | .nil => 1
  | .ptr d => uptoBulk d + 1
  | .slice elems spare => uptoBulkAll elems + uptoBulkAll spare + 1
  | .agg parts => uptoBulkAll parts + 1
  | .iface _ d => uptoBulk d + 1
  | .map entries => uptoBulkEntries entries + 1
  | .held _ => 1
def uptoBulkAll {H : Type} : List (DataW H) → Nat
  | [] => 0
  | d :: r => uptoBulk d + uptoBulkAll r
def uptoBulkEntries {H : Type} : List (Lit × DataW H) → Nat
  | [] => 0
  | x :: r => uptoBulkEntry x + uptoBulkEntries r
def uptoBulkEntry {H : Type} : Lit × DataW H → Nat
  | (.string bytes, d) => bytes.length + uptoBulk d + 1
  | (_, d) => uptoBulk d + 1
 end
def uptoSmall : (H : Type) → List (DataW H) → Bool := fun _ ds => decide (uptoBulkAll ds ≤ 1048576)
def OpenSpec.upto (s : _root_.Go.ChangeSpec) : _root_.Go.OpenSpec := { _root_.Go.OpenSpec.ofChange s with cond := some uptoSmall }

/-- 'thicketlaw.TokenNexts', WHERE WHAT IT READS IS OF BULK AT MOST 1048576: true; the input reads as it did. -/
def tokenNextsUptoRow : OpenClaim := { program := "ytlapnhjkhpgklaa", sum := "9643fe68833005dadaa74c46d501827bfa0221380cb3e47ce47075ec635d4f15", func := "thicket/thicketlaw.TokenNexts", spec := "tokenNexts", unfollowed := true, recurses := true, apart := false, narrowed := true }
def TokenNextsUptoSaid : Prop := tokenNextsUptoRow.holds Try.pinned (OpenSpec.upto tokenNextsSpec)

/-- 'thicketlaw.TokenAlls', WHERE WHAT IT READS IS OF BULK AT MOST 1048576: true; the input reads as it did. -/
def tokenAllsUptoRow : OpenClaim := { program := "ytlapnhjkhpgklaa", sum := "9643fe68833005dadaa74c46d501827bfa0221380cb3e47ce47075ec635d4f15", func := "thicket/thicketlaw.TokenAlls", spec := "tokenAlls", unfollowed := true, recurses := true, apart := false, narrowed := true }
def TokenAllsUptoSaid : Prop := tokenAllsUptoRow.holds Try.pinned (OpenSpec.upto tokenAllsSpec)

/-- 'thicketlaw.TokenMoves', WHERE WHAT IT READS IS OF BULK AT MOST 1048576: true; the input reads as it did. -/
def tokenMovesUptoRow : OpenClaim := { program := "ytlapnhjkhpgklaa", sum := "9643fe68833005dadaa74c46d501827bfa0221380cb3e47ce47075ec635d4f15", func := "thicket/thicketlaw.TokenMoves", spec := "tokenMoves", unfollowed := true, recurses := true, apart := false, narrowed := true }
def TokenMovesUptoSaid : Prop := tokenMovesUptoRow.holds Try.pinned (OpenSpec.upto tokenMovesSpec)

/-- 'thicketlaw.TokenPlain', WHERE WHAT IT READS IS OF BULK AT MOST 1048576: true; the input reads as it did. -/
def tokenPlainUptoRow : OpenClaim := { program := "ytlapnhjkhpgklaa", sum := "9643fe68833005dadaa74c46d501827bfa0221380cb3e47ce47075ec635d4f15", func := "thicket/thicketlaw.TokenPlain", spec := "tokenPlain", unfollowed := true, recurses := true, apart := false, narrowed := true }
def TokenPlainUptoSaid : Prop := tokenPlainUptoRow.holds Try.pinned (OpenSpec.upto tokenPlainSpec)

/-- 'thicketlaw.TokenGreedy', WHERE WHAT IT READS IS OF BULK AT MOST 1048576: true; the input reads as it did. -/
def tokenGreedyUptoRow : OpenClaim := { program := "ytlapnhjkhpgklaa", sum := "9643fe68833005dadaa74c46d501827bfa0221380cb3e47ce47075ec635d4f15", func := "thicket/thicketlaw.TokenGreedy", spec := "tokenGreedy", unfollowed := true, recurses := true, apart := false, narrowed := true }
def TokenGreedyUptoSaid : Prop := tokenGreedyUptoRow.holds Try.pinned (OpenSpec.upto tokenGreedySpec)

end Rows
end Go.Proofs.Ytlapnhjkhpgklaa
