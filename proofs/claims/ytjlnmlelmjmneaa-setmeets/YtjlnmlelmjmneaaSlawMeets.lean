/- The walk of SetMeets. -/
import Derived.Test.YtjlnmlelmjmneaaSlaws
namespace Go.Proofs.Ytjlnmlelmjmneaa
open Go.RowKit
set_option linter.unusedVariables false

set_option maxHeartbeats 2000000 in
theorem setMeets_walk (v : Value) (L : RL) (u : Value) (M : RL) (w : World) (hv : Reads w v L) (hu : Reads w u M) : Calls Try.prog 6 #[v, u] w fun e w' => e = .returned (.bool true) ∧ Below w.heap.size w w' := by
  have HV := hide hv
  have HM := hide (meet_any v u L M w hv hu)
  have HR := hide (fun w1 (h : Below w.heap.size w w1) => checkSets_any v u L M w1 (hv.below h) (hu.below h))
  by_cases h0 : chk2 L M = 0
  · obtain ⟨h1, h2⟩ := chk_two h0
    obtain ⟨hlen, hcan⟩ := checkE_ok.1 h1
    obtain ⟨hlen2, hcan2⟩ := checkE_ok.1 h2
    rw [h0] at HM HR
    have HO := hide (fun w1 (h : Below w.heap.size w w1) => meetOf_any v u L M w1 (hv.below h) (hu.below h) (by omega) (by omega) hcan.1 hcan2.1)
    clear hv hu h0 h1 h2 hcan hcan2
    go_enter Try.func6, Try.ntmps6
    go_wp2_with fail
    refine HM.out.mono ?_
    rintro e w1 ⟨va, err, O, rfl, hr1, hm1, hb1⟩
    go_wp2_with fail
    refine (HR.out w1 hb1).mono ?_
    rintro e w2 ⟨rfl, hb2⟩
    have hc2 := hb1.trans (hb2.mono hb1.size)
    go_wp2_with fail
    refine (HO.out w2 hc2).mono ?_
    rintro e w3 ⟨vw, T, rfl, hr3, hs3, _, hb3⟩
    have hc3 := hc2.trans (hb3.mono hc2.size)
    go_wp2_with fail
    refine (begun_any w3).mono ?_
    rintro e w4 ⟨rfl, hb4⟩
    have hc4 := hc3.trans (hb4.mono hc3.size)
    go_wp2_with fail
    refine (setIs_any va vw O T err 0 w4 (((hr1.below hb2).below hb3).below hb4) (hr3.below hb4) (.inr ⟨rfl, made_good hm1 hs3⟩)).mono ?_
    rintro e w5 ⟨rfl, hb5⟩
    have hc5 := hide (hc4.trans (hb5.mono hc4.size))
    clear hb1 hb2 hb3 hb4 hb5 hc2 hc3 hc4 hr1 hr3 hm1 hs3
    go_wp2
    go_ret
    exact ⟨rfl, hc5.out⟩
  · have hne : Hid (chk2 L M ≠ 0) := h0
    obtain ⟨z, hz⟩ : ∃ z, z = chk2 L M := ⟨_, rfl⟩
    rw [← hz] at h0 HM HR hne
    have hz0 : (z == 0) = false := by simpa using h0
    clear hz h0 hv hu
    go_enter Try.func6, Try.ntmps6
    go_wp2_with fail
    refine HM.out.mono ?_
    rintro e w1 ⟨va, err, O, rfl, hr1, hm1, hb1⟩
    obtain ⟨he1, hO1⟩ := made_bad hm1 hne.out
    rw [he1]
    rw [hO1] at hr1
    clear he1 hO1 hm1
    go_wp2_with fail
    refine (HR.out w1 hb1).mono ?_
    rintro e w2 ⟨rfl, hb2⟩
    have hc2 := hb1.trans (hb2.mono hb1.size)
    go_wp2_with fail
    refine (begun_any w2).mono ?_
    rintro e w4 ⟨rfl, hb4⟩
    have hc4 := hc2.trans (hb4.mono hc2.size)
    go_wp2_with fail
    refine (setIs_any va (.slice none 0 0) [] [] z z w4 ((hr1.below hb2).below hb4) (reads_nil _) (.inl ⟨hne.out, rfl, rfl⟩)).mono ?_
    rintro e w5 ⟨rfl, hb5⟩
    have hc5 := hide (hc4.trans (hb5.mono hc4.size))
    clear hb1 hb2 hb4 hb5 hc2 hc4 hr1
    go_wp2
    go_ret
    exact ⟨rfl, hc5.out⟩

end Go.Proofs.Ytjlnmlelmjmneaa
