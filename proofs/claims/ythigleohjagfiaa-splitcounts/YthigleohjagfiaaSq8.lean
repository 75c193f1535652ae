/- Roads: the sort of the two roads that splitBegun tries. -/
import Derived.Test.YthigleohjagfiaaSq7
namespace Go.Proofs.Ythigleohjagfiaa
open Go.RowKit Go.PlainAid
set_option linter.unusedVariables false

set_option maxRecDepth 100000 in
set_option maxHeartbeats 4000000 in
theorem pdq_any (gr g0 g1 c : Nat) (lim : Int) (w : World) (h : Row2 w gr g0 g1) : Calls Try.prog 51 #[.slice (some ⟨gr, 0, none⟩) 2 c, .int .i64 0, .int .i64 2, .int .i64 lim, .func (.func 29) #[] #[]] w fun e w' => e = .returned (.tuple #[]) ∧ Below w.heap.size w w' := by
  have HI := hide (isort_any gr g0 g1 c w h)
  clear h
  go_enter Try.func51, Try.ntmps51
  go_wp2
  go_loopw [1, 2] (fun a b wr => a = .int .i64 0 ∧ b = .int .i64 2 ∧ wr = w) (fun _ _ _ => 0)
  case atStart => exact ⟨rfl, rfl, rfl⟩
  case round =>
    obtain ⟨rfl, rfl, hwr⟩ := hrel
    have hwr2 := hwr.symm
    subst hwr2
    go_wp2_with fail
    refine HI.out.mono ?_
    rintro e w3 ⟨rfl, hb3⟩
    have HB3 := hide hb3
    clear hb3 HI
    go_wp2
    try simp only [Exit.inBlock, Exit.then]
    refine bodyPost_ret (results_none rfl _ _ _) rfl ?_
    exact ⟨rfl, HB3.out⟩
set_option maxRecDepth 100000 in
set_option maxHeartbeats 4000000 in
theorem sort_any (gr g0 g1 c : Nat) (w : World) (h : Row2 w gr g0 g1) : Calls Try.prog 28 #[.slice (some ⟨gr, 0, none⟩) 2 c, .func (.func 29) #[] #[]] w fun e w' => e = .returned (.tuple #[]) ∧ Below w.heap.size w w' := by
  have HI := hide (fun lim => pdq_any gr g0 g1 c lim w h)
  clear h
  go_enter Try.func28, Try.ntmps28
  go_wp2_with (first | (go_at_call 51; refine (HI.out _).mono ?_; rintro e w3 ⟨rfl, hb3⟩; have HB3 := hide hb3; clear hb3) | go_in)
  go_end0
  exact ⟨rfl, HB3.out⟩

end Go.Proofs.Ythigleohjagfiaa
