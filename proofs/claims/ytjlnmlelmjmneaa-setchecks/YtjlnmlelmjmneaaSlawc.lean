/- The walk of SetChecks. -/
import Derived.Test.YtjlnmlelmjmneaaSbegun
import Derived.Test.YtjlnmlelmjmneaaSchkd
namespace Go.Proofs.Ytjlnmlelmjmneaa
open Go.RowKit
set_option linter.unusedVariables false

set_option maxHeartbeats 1000000 in
theorem setChecks_walk (v : Value) (L : RL) (w : World) (hv : Reads w v L) : Calls Try.prog 3 #[v] w fun e w' => e = .returned (.bool true) ∧ Below w.heap.size w w' := by
  have HV := hide hv
  have HB := hide (begun_any w)
  obtain ⟨z, hz⟩ : ∃ z, z = checkE L := ⟨_, rfl⟩
  have HC := hide (fun w1 h => check_any v L w1 h)
  have HD := hide (fun w1 h => checkSet_any v L w1 h)
  rw [← hz] at HC HD
  clear hv hz
  go_enter Try.func3, Try.ntmps3
  go_wp2_with fail
  refine HB.out.mono ?_
  rintro e w1 ⟨rfl, hb1⟩
  go_wp2_with fail
  refine (HC.out w1 (HV.out.below hb1)).mono ?_
  rintro e w2 ⟨rfl, hb2⟩
  have hc2 := hb1.trans (hb2.mono hb1.size)
  go_wp2_with fail
  refine (HD.out w2 (HV.out.below hc2)).mono ?_
  rintro e w3 ⟨rfl, hb3⟩
  have hc3 := hc2.trans (hb3.mono hc2.size)
  clear hb1 hb2 hb3 hc2
  go_wp2
  go_ret
  exact ⟨rfl, hc3⟩

end Go.Proofs.Ytjlnmlelmjmneaa
