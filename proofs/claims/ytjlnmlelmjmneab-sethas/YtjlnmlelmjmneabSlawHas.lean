/- The walk of SetHas. -/
import Derived.Test.YtjlnmlelmjmneabShas
import Derived.Test.YtjlnmlelmjmneabSbegun
import Derived.Test.YtjlnmlelmjmneabSchkd
namespace Go.Proofs.Ytjlnmlelmjmneab
open Go.RowKit
set_option linter.unusedVariables false

set_option maxHeartbeats 2000000 in
theorem setHas_walk (v : Value) (L : RL) (p : Int) (w : World) (hv : Reads w v L) : Calls Try.prog 3 #[v, .int .i64 p] w fun e w' => e = .returned (.bool true) ∧ Below w.heap.size w w' := by
  by_cases h0 : checkE L = 0
  · have HN := hide (fun w1 (hb : Below w.heap.size w w1) => count_ok v L w1 (hv.below hb) h0)
    have HD := hide (fun w1 (hb : Below w.heap.size w w1) => checkSet_any v L w1 (hv.below hb))
    have HO := hide (fun w1 (hb : Below w.heap.size w w1) => countOf_any v L w1 (hv.below hb) h0)
    rw [h0] at HD
    obtain ⟨n, hn⟩ : ∃ n, n = cntL L := ⟨_, rfl⟩
    rw [← hn] at HN HO
    by_cases hp : 0 ≤ p ∧ p ≤ 1114111
    · have HH := hide (has_in v L p w hv h0 hp.1 hp.2)
      have HI := hide (fun w => isR_any p w)
      rw [show decide (0 ≤ p ∧ p ≤ 1114111) = true from by simp [hp]] at HI
      have HW := hide (fun w1 (hb : Below w.heap.size w w1) => within_any v L p w1 (hv.below hb) (by have := (checkE_ok.1 h0).1; omega))
      obtain ⟨b, hb'⟩ : ∃ b, b = ins L p := ⟨_, rfl⟩
      rw [← hb'] at HH HW
      clear hv h0 hn hp hb'
      go_enter Try.func3, Try.ntmps3
      go_wp2_with fail
      refine HH.out.mono ?_
      rintro e w1 ⟨rfl, hb1⟩
      go_wp2_with fail
      refine (HN.out w1 hb1).mono ?_
      rintro e w2 ⟨rfl, hb2'⟩
      have hb2 := hb1.trans (hb2'.mono hb1.size)
      go_wp2_with fail
      refine (HD.out w2 hb2).mono ?_
      rintro e w3 ⟨rfl, hb3'⟩
      have hb3 := hb2.trans (hb3'.mono hb2.size)
      go_wp2_with fail
      refine (HO.out w3 hb3).mono ?_
      rintro e w4 ⟨rfl, hb4'⟩
      have hb4 := hb3.trans (hb4'.mono hb3.size)
      go_wp2_with fail
      refine (HI.out w4).mono ?_
      rintro e w5 ⟨rfl, rfl⟩
      go_wp2_with fail
      refine (begun_any w4).mono ?_
      rintro e w5 ⟨rfl, hb5'⟩
      have hb5 := hb4.trans (hb5'.mono hb4.size)
      go_wp2_with fail
      refine (HW.out w5 hb5).mono ?_
      rintro e w6 ⟨rfl, q, rfl⟩
      clear hb1 hb2 hb2' hb3 hb3' hb4 hb4' hb5'
      cases b
      all_goals
        go_wp2
        go_ret
        exact ⟨rfl, below_drewN hb5 q⟩
    · have HH := hide (has_out v L p w hv h0 hp)
      have HI := hide (fun w => isR_any p w)
      rw [show decide (0 ≤ p ∧ p ≤ 1114111) = false from by simpa using hp] at HI
      clear hv h0 hn hp
      go_enter Try.func3, Try.ntmps3
      go_wp2_with fail
      refine HH.out.mono ?_
      rintro e w1 ⟨rfl, hb1⟩
      go_wp2_with fail
      refine (HN.out w1 hb1).mono ?_
      rintro e w2 ⟨rfl, hb2'⟩
      have hb2 := hb1.trans (hb2'.mono hb1.size)
      go_wp2_with fail
      refine (HD.out w2 hb2).mono ?_
      rintro e w3 ⟨rfl, hb3'⟩
      have hb3 := hb2.trans (hb3'.mono hb2.size)
      go_wp2_with fail
      refine (HO.out w3 hb3).mono ?_
      rintro e w4 ⟨rfl, hb4'⟩
      have hb4 := hb3.trans (hb4'.mono hb3.size)
      go_wp2_with fail
      refine (HI.out w4).mono ?_
      rintro e w5 ⟨rfl, rfl⟩
      go_wp2_with fail
      refine (begun_any w4).mono ?_
      rintro e w5 ⟨rfl, hb5'⟩
      have hb5 := hb4.trans (hb5'.mono hb4.size)
      clear hb1 hb2 hb2' hb3 hb3' hb4 hb4' hb5'
      go_wp2
      go_ret
      exact ⟨rfl, hb5⟩
  · have HH := hide (has_bad v L p w hv h0)
    have HN := hide (fun w1 (hb : Below w.heap.size w w1) => count_bad v L w1 (hv.below hb) h0)
    have HD := hide (fun w1 (hb : Below w.heap.size w w1) => checkSet_any v L w1 (hv.below hb))
    obtain ⟨z, hz⟩ : ∃ z, z = checkE L := ⟨_, rfl⟩
    rw [← hz] at HH HN HD h0
    have hz0 : (z == 0) = false := by simpa using h0
    clear hv h0 hz
    go_enter Try.func3, Try.ntmps3
    go_wp2_with fail
    refine HH.out.mono ?_
    rintro e w1 ⟨rfl, hb1⟩
    go_wp2_with fail
    refine (HN.out w1 hb1).mono ?_
    rintro e w2 ⟨rfl, hb2'⟩
    have hb2 := hb1.trans (hb2'.mono hb1.size)
    go_wp2_with fail
    refine (HD.out w2 hb2).mono ?_
    rintro e w3 ⟨rfl, hb3'⟩
    have hb3 := hb2.trans (hb3'.mono hb2.size)
    go_wp2_with fail
    refine (begun_any w3).mono ?_
    rintro e w5 ⟨rfl, hb5'⟩
    have hb5 := hb3.trans (hb5'.mono hb3.size)
    clear hb1 hb2 hb2' hb3 hb3' hb5'
    go_wp2
    go_ret
    exact ⟨rfl, hb5⟩

end Go.Proofs.Ytjlnmlelmjmneab
