/-
  No cell of these rows narrows 'for every input' (looked for: loops, veiled, ifaces, maps, wideKeys, modest, calm, conditions, laid).
  DERIVED. THE GIVEN ROWS OF THIS SEAT. 6 by the template 'for every input the law returns true; each argument reads behind the call as it read before'; 0 by the template 'total and deterministic' (their statements: YtjlnmlelmjmneaaTotals.lean).
  GIVEN WITH THE SEED: the statements are not yours to turn. If you find one false, say at which input.
  Laid BY PROGRAM, IN A SANDBOX (cutbox-rows.mjs): the forced cells as the released guide's own fill.sh prints them over the translation cbbefbf603aa697f… (all of the seat's roots in one cut). By AI agents, Wed Nov 11 2026. No macro, syntax, notation, axiom, sorry.
-/
import Derived.Test.YtjlnmlelmjmneaaChecked
import GoSem.Claim
import GoSem.ClaimJoined
import GoSem.ClaimMapViews
import Derived.JoinedTies
import Derived.KernelRfl
namespace Go.Proofs.Ytjlnmlelmjmneaa
/- THE CELL 'sum', in the pinned program and in every row, IS THE sha256 OF THE DUMP (.gsa) THAT YtjlnmlelmjmneaaProg.lean LOADS. Nothing in Lean hashes anything: it is a label: what it is worth is what the hold of that sum in a sandbox is worth. -/
noncomputable def Try.pinned : Pinned := { name := "ytjlnmlelmjmneaa", sum := "cbbefbf603aa697f055f730d80eb6f85ddd07ea8973f6681fdc077568438de8e", checked := Try.checked }
namespace Rows
def none {H : Type} : Left H := { results := [], args := [] }

/-- 'thicketlaw.SetChecks': WHATEVER THE INPUT: true; the input reads as it did. -/
def setChecksSpec : ChangeSpec := { name := "setChecks", fn := fun _ => fun
  | [d] => { results := [.lit (.bool true)], args := [d] }
  | _ => none }
def setChecksRow : OpenClaim := { program := "ytjlnmlelmjmneaa", sum := "cbbefbf603aa697f055f730d80eb6f85ddd07ea8973f6681fdc077568438de8e", func := "thicket/thicketlaw.SetChecks", spec := "setChecks", unfollowed := true, recurses := true, apart := false }
def SetChecksSaid : Prop := setChecksRow.holds Try.pinned (OpenSpec.ofChange setChecksSpec)

/-- ITS FALSE NEIGHBOUR: 'it returns false'. Refute it at one input. -/
def setChecksWrong : ChangeSpec := { name := "setChecks", fn := fun _ => fun
  | [d] => { results := [.lit (.bool false)], args := [d] }
  | _ => none }
def SetChecksWrongFalsely : Prop := setChecksRow.holds Try.pinned (OpenSpec.ofChange setChecksWrong)

/-- 'thicketlaw.SetMakes': WHATEVER THE INPUT: true; the input reads as it did. -/
def setMakesSpec : ChangeSpec := { name := "setMakes", fn := fun _ => fun
  | [d] => { results := [.lit (.bool true)], args := [d] }
  | _ => none }
def setMakesRow : OpenClaim := { program := "ytjlnmlelmjmneaa", sum := "cbbefbf603aa697f055f730d80eb6f85ddd07ea8973f6681fdc077568438de8e", func := "thicket/thicketlaw.SetMakes", spec := "setMakes", unfollowed := true, recurses := true, apart := false }
def SetMakesSaid : Prop := setMakesRow.holds Try.pinned (OpenSpec.ofChange setMakesSpec)

/-- ITS FALSE NEIGHBOUR: 'it returns false'. Refute it at one input. -/
def setMakesWrong : ChangeSpec := { name := "setMakes", fn := fun _ => fun
  | [d] => { results := [.lit (.bool false)], args := [d] }
  | _ => none }
def SetMakesWrongFalsely : Prop := setMakesRow.holds Try.pinned (OpenSpec.ofChange setMakesWrong)

/-- 'thicketlaw.SetUnions': WHATEVER THE INPUT: true; the input reads as it did. -/
def setUnionsSpec : ChangeSpec := { name := "setUnions", fn := fun _ => fun
  | [d1, d2] => { results := [.lit (.bool true)], args := [d1, d2] }
  | _ => none }
def setUnionsRow : OpenClaim := { program := "ytjlnmlelmjmneaa", sum := "cbbefbf603aa697f055f730d80eb6f85ddd07ea8973f6681fdc077568438de8e", func := "thicket/thicketlaw.SetUnions", spec := "setUnions", unfollowed := true, recurses := true, apart := false }
def SetUnionsSaid : Prop := setUnionsRow.holds Try.pinned (OpenSpec.ofChange setUnionsSpec)

/-- ITS FALSE NEIGHBOUR: 'it returns false'. Refute it at one input. -/
def setUnionsWrong : ChangeSpec := { name := "setUnions", fn := fun _ => fun
  | [d1, d2] => { results := [.lit (.bool false)], args := [d1, d2] }
  | _ => none }
def SetUnionsWrongFalsely : Prop := setUnionsRow.holds Try.pinned (OpenSpec.ofChange setUnionsWrong)

/-- 'thicketlaw.SetMeets': WHATEVER THE INPUT: true; the input reads as it did. -/
def setMeetsSpec : ChangeSpec := { name := "setMeets", fn := fun _ => fun
  | [d1, d2] => { results := [.lit (.bool true)], args := [d1, d2] }
  | _ => none }
def setMeetsRow : OpenClaim := { program := "ytjlnmlelmjmneaa", sum := "cbbefbf603aa697f055f730d80eb6f85ddd07ea8973f6681fdc077568438de8e", func := "thicket/thicketlaw.SetMeets", spec := "setMeets", unfollowed := true, recurses := true, apart := false }
def SetMeetsSaid : Prop := setMeetsRow.holds Try.pinned (OpenSpec.ofChange setMeetsSpec)

/-- ITS FALSE NEIGHBOUR: 'it returns false'. Refute it at one input. -/
def setMeetsWrong : ChangeSpec := { name := "setMeets", fn := fun _ => fun
  | [d1, d2] => { results := [.lit (.bool false)], args := [d1, d2] }
  | _ => none }
def SetMeetsWrongFalsely : Prop := setMeetsRow.holds Try.pinned (OpenSpec.ofChange setMeetsWrong)

/-- 'thicketlaw.SetLess': WHATEVER THE INPUT: true; the input reads as it did. -/
def setLessSpec : ChangeSpec := { name := "setLess", fn := fun _ => fun
  | [d1, d2] => { results := [.lit (.bool true)], args := [d1, d2] }
  | _ => none }
def setLessRow : OpenClaim := { program := "ytjlnmlelmjmneaa", sum := "cbbefbf603aa697f055f730d80eb6f85ddd07ea8973f6681fdc077568438de8e", func := "thicket/thicketlaw.SetLess", spec := "setLess", unfollowed := true, recurses := true, apart := false }
def SetLessSaid : Prop := setLessRow.holds Try.pinned (OpenSpec.ofChange setLessSpec)

/-- ITS FALSE NEIGHBOUR: 'it returns false'. Refute it at one input. -/
def setLessWrong : ChangeSpec := { name := "setLess", fn := fun _ => fun
  | [d1, d2] => { results := [.lit (.bool false)], args := [d1, d2] }
  | _ => none }
def SetLessWrongFalsely : Prop := setLessRow.holds Try.pinned (OpenSpec.ofChange setLessWrong)

/-- 'thicketlaw.SetNots': WHATEVER THE INPUT: true; the input reads as it did. -/
def setNotsSpec : ChangeSpec := { name := "setNots", fn := fun _ => fun
  | [d] => { results := [.lit (.bool true)], args := [d] }
  | _ => none }
def setNotsRow : OpenClaim := { program := "ytjlnmlelmjmneaa", sum := "cbbefbf603aa697f055f730d80eb6f85ddd07ea8973f6681fdc077568438de8e", func := "thicket/thicketlaw.SetNots", spec := "setNots", unfollowed := true, recurses := true, apart := false }
def SetNotsSaid : Prop := setNotsRow.holds Try.pinned (OpenSpec.ofChange setNotsSpec)

/-- ITS FALSE NEIGHBOUR: 'it returns false'. Refute it at one input. -/
def setNotsWrong : ChangeSpec := { name := "setNots", fn := fun _ => fun
  | [d] => { results := [.lit (.bool false)], args := [d] }
  | _ => none }
def SetNotsWrongFalsely : Prop := setNotsRow.holds Try.pinned (OpenSpec.ofChange setNotsWrong)

/- THE SECOND FORM. 'bulk': how many values and letters a reading holds, each counted each time it is reached (what is shared counts as often as it is met; a slice's spare places count too). A statement '..UptoSaid' is the law's where the arguments, and the package variables that the reading takes, are together of bulk at most 1048576: NARROWER than '..Said'. Prove '..Said' where nothing that the law and all that it calls make is longer than what came in: it says more and counts as full. Else prove '..UptoSaid'. A law counts once. -/
mutual
def uptoBulk {H : Type} : DataW H → Nat
  | .lit (.string bytes) => bytes.length + 1
  | .lit _ => 1
  | .nil => 1
  | .ptr d => uptoBulk d + 1
  | .slice elems spare => uptoBulkAll elems + uptoBulkAll spare + 1
  | .agg parts => uptoBulkAll parts + 1
  | .iface _ d => uptoBulk d + 1
  | .map entries => uptoBulkEntries entries + 1
  | .held _ => 1
def uptoBulkAll {H : Type} : List (DataW H) → Nat
  | [] => 0
  | d :: r => uptoBulk d + uptoBulkAll r
def uptoBulkEntries {H : Type} : List (Lit × DataW H) → Nat
  | [] => 0
  | x :: r => uptoBulkEntry x + uptoBulkEntries r
def uptoBulkEntry {H : Type} : Lit × DataW H → Nat
  | (.string bytes, d) => bytes.length + uptoBulk d + 1
  | (_, d) => uptoBulk d + 1
 end
def uptoSmall : (H : Type) → List (DataW H) → Bool := fun _ ds => decide (uptoBulkAll ds ≤ 1048576)
def OpenSpec.upto (s : _root_.Go.ChangeSpec) : _root_.Go.OpenSpec := { _root_.Go.OpenSpec.ofChange s with cond := some uptoSmall }

/-- 'thicketlaw.SetChecks', WHERE WHAT IT READS IS OF BULK AT MOST 1048576: true; the input reads as it did. -/
def setChecksUptoRow : OpenClaim := { program := "ytjlnmlelmjmneaa", sum := "cbbefbf603aa697f055f730d80eb6f85ddd07ea8973f6681fdc077568438de8e", func := "thicket/thicketlaw.SetChecks", spec := "setChecks", unfollowed := true, recurses := true, apart := false, narrowed := true }
def SetChecksUptoSaid : Prop := setChecksUptoRow.holds Try.pinned (OpenSpec.upto setChecksSpec)

/-- 'thicketlaw.SetMakes', WHERE WHAT IT READS IS OF BULK AT MOST 1048576: true; the input reads as it did. -/
def setMakesUptoRow : OpenClaim := { program := "ytjlnmlelmjmneaa", sum := "cbbefbf603aa697f055f730d80eb6f85ddd07ea8973f6681fdc077568438de8e", func := "thicket/thicketlaw.SetMakes", spec := "setMakes", unfollowed := true, recurses := true, apart := false, narrowed := true }
def SetMakesUptoSaid : Prop := setMakesUptoRow.holds Try.pinned (OpenSpec.upto setMakesSpec)

/-- 'thicketlaw.SetUnions', WHERE WHAT IT READS IS OF BULK AT MOST 1048576: true; the input reads as it did. -/
def setUnionsUptoRow : OpenClaim := { program := "ytjlnmlelmjmneaa", sum := "cbbefbf603aa697f055f730d80eb6f85ddd07ea8973f6681fdc077568438de8e", func := "thicket/thicketlaw.SetUnions", spec := "setUnions", unfollowed := true, recurses := true, apart := false, narrowed := true }
def SetUnionsUptoSaid : Prop := setUnionsUptoRow.holds Try.pinned (OpenSpec.upto setUnionsSpec)

/-- 'thicketlaw.SetMeets', WHERE WHAT IT READS IS OF BULK AT MOST 1048576: true; the input reads as it did. -/
def setMeetsUptoRow : OpenClaim := { program := "ytjlnmlelmjmneaa", sum := "cbbefbf603aa697f055f730d80eb6f85ddd07ea8973f6681fdc077568438de8e", func := "thicket/thicketlaw.SetMeets", spec := "setMeets", unfollowed := true, recurses := true, apart := false, narrowed := true }
def SetMeetsUptoSaid : Prop := setMeetsUptoRow.holds Try.pinned (OpenSpec.upto setMeetsSpec)

/-- 'thicketlaw.SetLess', WHERE WHAT IT READS IS OF BULK AT MOST 1048576: true; the input reads as it did. -/
def setLessUptoRow : OpenClaim := { program := "ytjlnmlelmjmneaa", sum := "cbbefbf603aa697f055f730d80eb6f85ddd07ea8973f6681fdc077568438de8e", func := "thicket/thicketlaw.SetLess", spec := "setLess", unfollowed := true, recurses := true, apart := false, narrowed := true }
def SetLessUptoSaid : Prop := setLessUptoRow.holds Try.pinned (OpenSpec.upto setLessSpec)

/-- 'thicketlaw.SetNots', WHERE WHAT IT READS IS OF BULK AT MOST 1048576: true; the input reads as it did. -/
def setNotsUptoRow : OpenClaim := { program := "ytjlnmlelmjmneaa", sum := "cbbefbf603aa697f055f730d80eb6f85ddd07ea8973f6681fdc077568438de8e", func := "thicket/thicketlaw.SetNots", spec := "setNots", unfollowed := true, recurses := true, apart := false, narrowed := true }
def SetNotsUptoSaid : Prop := setNotsUptoRow.holds Try.pinned (OpenSpec.upto setNotsSpec)

end Rows
end Go.Proofs.Ytjlnmlelmjmneaa
