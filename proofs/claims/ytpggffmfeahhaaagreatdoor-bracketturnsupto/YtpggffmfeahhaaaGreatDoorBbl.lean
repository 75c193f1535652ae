/- The walk of BracketTurns. -/
import Derived.Test.YtpggffmfeahhaaaGreatDoorLF
import Derived.Test.YtpggffmfeahhaaaGreatDoorLG
namespace Go.Proofs.YtpggffmfeahhaaaGreatDoor.Br
open Go.RowKit
open TK (Mv PatV ReadsI byteA add_block peel)
set_option linter.unusedVariables false

theorem turns_walk (d p : Int) (fo : Bool) (v : Value) (l : List Int) (w : World) (hT : Fo.Tab w) (hpos : 0 < w.heap.size) (h : PatV w v l) (hl : l.length ≤ 2000000) : Calls Tryz.prog 3 #[.int .i64 d, v, .bool fo, .int .i64 p] w fun e w' => e = .returned (.bool true) ∧ Below w.heap.size w w' := by
  cases hc : l with
  | nil => subst hc; exact turns_none d p fo v [] w hT hpos h hl rfl
  | cons l0 l1 =>
    obtain ⟨x, c, hv, _, _⟩ := h.some (by rw [hc]; simp)
    by_cases h94 : l0 = 94
    · subst h94
      by_cases hc1 : c = 1
      · rw [hc] at h hl hv
        exact turns_beg1 d p fo v _ w hT hpos h hl x c hv l1 rfl hc1
      · rw [hc] at h hl hv
        exact turns_beg d p fo v _ w hT hpos h hl x c hv l1 rfl hc1
    · rw [hc] at h hl hv
      exact turns_other d p fo v _ w hT hpos h hl x c hv l0 l1 rfl h94
end Go.Proofs.YtpggffmfeahhaaaGreatDoor.Br
