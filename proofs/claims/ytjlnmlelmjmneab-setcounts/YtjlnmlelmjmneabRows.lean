/-
  No cell of these rows narrows 'for every input' (looked for: loops, veiled, ifaces, maps, wideKeys, modest, calm, conditions, laid).
  DERIVED. THE GIVEN ROWS OF THIS SEAT. 5 by the template 'for every input the law returns true; each argument reads behind the call as it read before'; 0 by the template 'total and deterministic' (their statements: YtjlnmlelmjmneabTotals.lean).
  GIVEN WITH THE SEED: the statements are not yours to turn. If you find one false, say at which input.
  Laid BY PROGRAM, IN A SANDBOX (cutbox-rows.mjs): the forced cells as the released guide's own fill.sh prints them over the translation 49ea23e231176f56… (all of the seat's roots in one cut). By AI agents, Wed Nov 11 2026. No macro, syntax, notation, axiom, sorry.
-/
import Derived.Test.YtjlnmlelmjmneabChecked
import GoSem.Claim
import GoSem.ClaimJoined
import GoSem.ClaimMapViews
import Derived.JoinedTies
import Derived.KernelRfl
namespace Go.Proofs.Ytjlnmlelmjmneab
/- THE CELL 'sum', in the pinned program and in every row, IS THE sha256 OF THE DUMP (.gsa) THAT YtjlnmlelmjmneabProg.lean LOADS. Nothing in Lean hashes anything: it is a label: what it is worth is what the hold of that sum in a sandbox is worth. -/
noncomputable def Try.pinned : Pinned := { name := "ytjlnmlelmjmneab", sum := "49ea23e231176f565aa4f7647e90aebe6bf0233813747a105be7debeded1da43", checked := Try.checked }
namespace Rows
def none {H : Type} : Left H := { results := [], args := [] }

/-- 'thicketlaw.SetHas': WHATEVER THE INPUT: true; the input reads as it did. -/
def setHasSpec : ChangeSpec := { name := "setHas", fn := fun _ => fun
  | [d1, d2] => { results := [.lit (.bool true)], args := [d1, d2] }
  | _ => none }
def setHasRow : OpenClaim := { program := "ytjlnmlelmjmneab", sum := "49ea23e231176f565aa4f7647e90aebe6bf0233813747a105be7debeded1da43", func := "thicket/thicketlaw.SetHas", spec := "setHas", unfollowed := true, recurses := true, apart := false }
def SetHasSaid : Prop := setHasRow.holds Try.pinned (OpenSpec.ofChange setHasSpec)

/-- ITS FALSE NEIGHBOUR: 'it returns false'. Refute it at one input. -/
def setHasWrong : ChangeSpec := { name := "setHas", fn := fun _ => fun
  | [d1, d2] => { results := [.lit (.bool false)], args := [d1, d2] }
  | _ => none }
def SetHasWrongFalsely : Prop := setHasRow.holds Try.pinned (OpenSpec.ofChange setHasWrong)

/-- 'thicketlaw.SetTurns': WHATEVER THE INPUT: true; the input reads as it did. -/
def setTurnsSpec : ChangeSpec := { name := "setTurns", fn := fun _ => fun
  | [d1, d2] => { results := [.lit (.bool true)], args := [d1, d2] }
  | _ => none }
def setTurnsRow : OpenClaim := { program := "ytjlnmlelmjmneab", sum := "49ea23e231176f565aa4f7647e90aebe6bf0233813747a105be7debeded1da43", func := "thicket/thicketlaw.SetTurns", spec := "setTurns", unfollowed := true, recurses := true, apart := false }
def SetTurnsSaid : Prop := setTurnsRow.holds Try.pinned (OpenSpec.ofChange setTurnsSpec)

/-- ITS FALSE NEIGHBOUR: 'it returns false'. Refute it at one input. -/
def setTurnsWrong : ChangeSpec := { name := "setTurns", fn := fun _ => fun
  | [d1, d2] => { results := [.lit (.bool false)], args := [d1, d2] }
  | _ => none }
def SetTurnsWrongFalsely : Prop := setTurnsRow.holds Try.pinned (OpenSpec.ofChange setTurnsWrong)

/-- 'thicketlaw.SetSame': WHATEVER THE INPUT: true; the input reads as it did. -/
def setSameSpec : ChangeSpec := { name := "setSame", fn := fun _ => fun
  | [d1, d2] => { results := [.lit (.bool true)], args := [d1, d2] }
  | _ => none }
def setSameRow : OpenClaim := { program := "ytjlnmlelmjmneab", sum := "49ea23e231176f565aa4f7647e90aebe6bf0233813747a105be7debeded1da43", func := "thicket/thicketlaw.SetSame", spec := "setSame", unfollowed := true, recurses := true, apart := false }
def SetSameSaid : Prop := setSameRow.holds Try.pinned (OpenSpec.ofChange setSameSpec)

/-- ITS FALSE NEIGHBOUR: 'it returns false'. Refute it at one input. -/
def setSameWrong : ChangeSpec := { name := "setSame", fn := fun _ => fun
  | [d1, d2] => { results := [.lit (.bool false)], args := [d1, d2] }
  | _ => none }
def SetSameWrongFalsely : Prop := setSameRow.holds Try.pinned (OpenSpec.ofChange setSameWrong)

/-- 'thicketlaw.SetSpreads': WHATEVER THE INPUT: true; the input reads as it did. -/
def setSpreadsSpec : ChangeSpec := { name := "setSpreads", fn := fun _ => fun
  | [d1, d2, d3] => { results := [.lit (.bool true)], args := [d1, d2, d3] }
  | _ => none }
def setSpreadsRow : OpenClaim := { program := "ytjlnmlelmjmneab", sum := "49ea23e231176f565aa4f7647e90aebe6bf0233813747a105be7debeded1da43", func := "thicket/thicketlaw.SetSpreads", spec := "setSpreads", unfollowed := true, recurses := true, apart := false }
def SetSpreadsSaid : Prop := setSpreadsRow.holds Try.pinned (OpenSpec.ofChange setSpreadsSpec)

/-- ITS FALSE NEIGHBOUR: 'it returns false'. Refute it at one input. -/
def setSpreadsWrong : ChangeSpec := { name := "setSpreads", fn := fun _ => fun
  | [d1, d2, d3] => { results := [.lit (.bool false)], args := [d1, d2, d3] }
  | _ => none }
def SetSpreadsWrongFalsely : Prop := setSpreadsRow.holds Try.pinned (OpenSpec.ofChange setSpreadsWrong)

/-- 'thicketlaw.SetCounts': WHATEVER THE INPUT: true; the input reads as it did. -/
def setCountsSpec : ChangeSpec := { name := "setCounts", fn := fun _ => fun
  | [d1, d2] => { results := [.lit (.bool true)], args := [d1, d2] }
  | _ => none }
def setCountsRow : OpenClaim := { program := "ytjlnmlelmjmneab", sum := "49ea23e231176f565aa4f7647e90aebe6bf0233813747a105be7debeded1da43", func := "thicket/thicketlaw.SetCounts", spec := "setCounts", unfollowed := true, recurses := true, apart := false }
def SetCountsSaid : Prop := setCountsRow.holds Try.pinned (OpenSpec.ofChange setCountsSpec)

/-- ITS FALSE NEIGHBOUR: 'it returns false'. Refute it at one input. -/
def setCountsWrong : ChangeSpec := { name := "setCounts", fn := fun _ => fun
  | [d1, d2] => { results := [.lit (.bool false)], args := [d1, d2] }
  | _ => none }
def SetCountsWrongFalsely : Prop := setCountsRow.holds Try.pinned (OpenSpec.ofChange setCountsWrong)

/- THE SECOND FORM. 'bulk': how many values and letters a reading holds, each counted each time it is reached (what is shared counts as often as it is met; a slice's spare places count too). A statement '..UptoSaid' is the law's where the arguments, and the package variables that the reading takes, are together of bulk at most 1048576: NARROWER than '..Said'. Prove '..Said' where nothing that the law and all that it calls make is longer than what came in: it says more and counts as full. Else prove '..UptoSaid'. A law counts once. -/
mutual
def uptoBulk {H : Type} : DataW H → Nat
  | .lit (.string bytes) => bytes.length + 1
  | .lit _ => 1
  | .nil => 1
  | .ptr d => uptoBulk d + 1
  | .slice elems spare => uptoBulkAll elems + uptoBulkAll spare + 1
  | .agg parts => uptoBulkAll parts + 1
  | .iface _ d => uptoBulk d + 1
  | .map entries => uptoBulkEntries entries + 1
  | .held _ => 1
def uptoBulkAll {H : Type} : List (DataW H) → Nat
  | [] => 0
  | d :: r => uptoBulk d + uptoBulkAll r
def uptoBulkEntries {H : Type} : List (Lit × DataW H) → Nat
  | [] => 0
  | x :: r => uptoBulkEntry x + uptoBulkEntries r
def uptoBulkEntry {H : Type} : Lit × DataW H → Nat
  | (.string bytes, d) => bytes.length + uptoBulk d + 1
  | (_, d) => uptoBulk d + 1
 end
def uptoSmall : (H : Type) → List (DataW H) → Bool := fun _ ds => decide (uptoBulkAll ds ≤ 1048576)
def OpenSpec.upto (s : _root_.Go.ChangeSpec) : _root_.Go.OpenSpec := { _root_.Go.OpenSpec.ofChange s with cond := some uptoSmall }

/-- 'thicketlaw.SetHas', WHERE WHAT IT READS IS OF BULK AT MOST 1048576: true; the input reads as it did. -/
def setHasUptoRow : OpenClaim := { program := "ytjlnmlelmjmneab", sum := "49ea23e231176f565aa4f7647e90aebe6bf0233813747a105be7debeded1da43", func := "thicket/thicketlaw.SetHas", spec := "setHas", unfollowed := true, recurses := true, apart := false, narrowed := true }
def SetHasUptoSaid : Prop := setHasUptoRow.holds Try.pinned (OpenSpec.upto setHasSpec)

/-- 'thicketlaw.SetTurns', WHERE WHAT IT READS IS OF BULK AT MOST 1048576: true; the input reads as it did. -/
def setTurnsUptoRow : OpenClaim := { program := "ytjlnmlelmjmneab", sum := "49ea23e231176f565aa4f7647e90aebe6bf0233813747a105be7debeded1da43", func := "thicket/thicketlaw.SetTurns", spec := "setTurns", unfollowed := true, recurses := true, apart := false, narrowed := true }
def SetTurnsUptoSaid : Prop := setTurnsUptoRow.holds Try.pinned (OpenSpec.upto setTurnsSpec)

/-- 'thicketlaw.SetSame', WHERE WHAT IT READS IS OF BULK AT MOST 1048576: true; the input reads as it did. -/
def setSameUptoRow : OpenClaim := { program := "ytjlnmlelmjmneab", sum := "49ea23e231176f565aa4f7647e90aebe6bf0233813747a105be7debeded1da43", func := "thicket/thicketlaw.SetSame", spec := "setSame", unfollowed := true, recurses := true, apart := false, narrowed := true }
def SetSameUptoSaid : Prop := setSameUptoRow.holds Try.pinned (OpenSpec.upto setSameSpec)

/-- 'thicketlaw.SetSpreads', WHERE WHAT IT READS IS OF BULK AT MOST 1048576: true; the input reads as it did. -/
def setSpreadsUptoRow : OpenClaim := { program := "ytjlnmlelmjmneab", sum := "49ea23e231176f565aa4f7647e90aebe6bf0233813747a105be7debeded1da43", func := "thicket/thicketlaw.SetSpreads", spec := "setSpreads", unfollowed := true, recurses := true, apart := false, narrowed := true }
def SetSpreadsUptoSaid : Prop := setSpreadsUptoRow.holds Try.pinned (OpenSpec.upto setSpreadsSpec)

/-- 'thicketlaw.SetCounts', WHERE WHAT IT READS IS OF BULK AT MOST 1048576: true; the input reads as it did. -/
def setCountsUptoRow : OpenClaim := { program := "ytjlnmlelmjmneab", sum := "49ea23e231176f565aa4f7647e90aebe6bf0233813747a105be7debeded1da43", func := "thicket/thicketlaw.SetCounts", spec := "setCounts", unfollowed := true, recurses := true, apart := false, narrowed := true }
def SetCountsUptoSaid : Prop := setCountsUptoRow.holds Try.pinned (OpenSpec.upto setCountsSpec)

end Rows
end Go.Proofs.Ytjlnmlelmjmneab
