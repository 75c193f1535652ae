/- What add, node and Show answer of a node that looks at a line's beginning; what NodesOf answers. -/
import Derived.Test.YtpcohmbipbiglaaDoorWbld
import Derived.Test.YtpcohmbipbiglaaDoorNshow
namespace Go.Proofs.YtpcohmbipbiglaaDoor
open Go.RowKit
set_option linter.unusedVariables false

set_option maxHeartbeats 2000000 in
set_option maxRecDepth 100000 in
theorem add1_any (B b : Nat) (bs : List Value) (nm : Value) (s : ByteArray) (g : Nat) (w : World) (h : WBs B b bs nm w) (hg : w.cell? ⟨g, 0, none⟩ = some (.string s)) (hlen : bs.length + s.size ≤ 140737488355328) (hBw : B ≤ w.heap.size) :
    Calls Tryd.prog 39 #[.pointer (some ⟨b, 0, none⟩), .slice (some ⟨g, 0, none⟩) 1 1] w fun e w' => e = .returned (.tuple #[]) ∧ WB B b (.pointer (some ⟨b, 0, none⟩)) (bs ++ Lib.strCells s) nm w' ∧ Below B w w' := by
  have HC := hide (wstr_any B b bs nm s w h hlen hBw)
  clear h hlen hBw
  go_enter Tryd.func39, Tryd.ntmps39
  go_wp2
  go_loopw [8] (fun c wr => (c = .int .i64 0 ∧ wr = w) ∨ (c = .int .i64 1 ∧ WB B b (.pointer (some ⟨b, 0, none⟩)) (bs ++ Lib.strCells s) nm wr ∧ Below B w wr)) (fun c _ => 1 - (intOf c).toNat)
  case atStart => exact .inl ⟨rfl, rfl⟩
  case round =>
    rcases hrel with ⟨rfl, hwr⟩ | ⟨rfl, hw1, hb1⟩
    · subst hwr
      go_wp2_with fail
      refine HC.out.mono ?_
      rintro e w2 ⟨rfl, hW, hb⟩
      have HW := hide hW
      have HB := hide hb
      clear hW hb HC
      go_wp2
      go_roundw
      case rel => exact .inr ⟨rfl, HW.out, HB.out⟩
      case measure => simp [intOf]
    · have HW := hide hw1
      have HB := hide hb1
      clear hw1 hb1 HC
      go_wp2
      first | (go_end0; exact ⟨rfl, HW.out, HB.out⟩) | exact ⟨rfl, _, rfl, rfl, HW.out, HB.out⟩ | exact ⟨rfl, rfl, HW.out, HB.out⟩

end Go.Proofs.YtpcohmbipbiglaaDoor
