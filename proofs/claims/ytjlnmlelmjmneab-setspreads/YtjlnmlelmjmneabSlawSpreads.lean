/- The walk of SetSpreads. -/
import Derived.Test.YtjlnmlelmjmneabSlawb
namespace Go.Proofs.Ytjlnmlelmjmneab
open Go.RowKit
set_option linter.unusedVariables false

set_option maxHeartbeats 4000000 in
theorem setSpreads_walk (va : Value) (A : RL) (vb : Value) (B : RL) (vc : Value) (C : RL) (w : World) (hA : Reads w va A) (hB : Reads w vb B) (hC : Reads w vc C) : Calls Try.prog 6 #[va, vb, vc] w fun e w' => e = .returned (.bool true) ∧ Below w.heap.size w w' := by
  go_enter Try.func6, Try.ntmps6
  go_wp2_with fail
  refine (begun_any w).mono ?_
  rintro e w1 ⟨rfl, hb1⟩
  have hA := hA.below hb1
  have hB := hB.below hb1
  have hC := hC.below hb1
  go_wp2_with fail
  refine (union_any vb vc B C w1 hB hC).mono ?_
  rintro e w2 ⟨v2, err2, O2, rfl, hr2, hm2, hb2'⟩
  have hb2 := hb1.trans (hb2'.mono hb1.size)
  have hA := hA.below hb2'
  have hB := hB.below hb2'
  have hC := hC.below hb2'
  rcases made_inv hm2 with ⟨hn2, hO2, h22⟩ | ⟨he2, hc2, hs2, hl2⟩
  · rw [hO2] at hr2
    have hz2 : (err2 == 0) = false := by simpa using hn2
    clear hO2 hm2
    go_wp2_with fail
    refine (meet_any va v2 A [] w2 hA hr2).mono ?_
    rintro e w3 ⟨v3, err3, O3, rfl, hr3, hm3, hb3'⟩
    have hb3 := hb2.trans (hb3'.mono hb2.size)
    have HF := hide hb3
    clear hb1 hb2 hb3 hb2' hb3' hA hB hC hr2 hr3 hm3 hn2 h22
    go_wp2
    go_ret
    exact ⟨rfl, HF.out⟩
  · rw [he2]
    clear he2 hm2
    obtain ⟨cB, cC⟩ := chk_two hc2
    go_wp2_with fail
    refine (meet_any va v2 A O2 w2 hA hr2).mono ?_
    rintro e w3 ⟨v3, err3, O3, rfl, hr3, hm3, hb3'⟩
    have hb3 := hb2.trans (hb3'.mono hb2.size)
    have hA := hA.below hb3'
    have hB := hB.below hb3'
    have hC := hC.below hb3'
    rcases made_inv hm3 with ⟨hn3, hO3, h23⟩ | ⟨he3, hc3, hs3, hl3⟩
    · have hz3 : (err3 == 0) = false := by simpa using hn3
      have HF := hide hb3
      clear hb1 hb2 hb3 hb2' hb3' hA hB hC hr2 hr3 hm3 hn3 h23 cB cC hc2 hs2 hl2 hO3
      go_wp2
      go_ret
      exact ⟨rfl, HF.out⟩
    · rw [he3]
      clear he3 hm3
      obtain ⟨cA, _⟩ := chk_two hc3
      go_wp2_with fail
      refine (meet_any va vb A B w3 hA hB).mono ?_
      rintro e w4 ⟨v4, err4, O4, rfl, hr4, hm4, hb4'⟩
      have hb4 := hb3.trans (hb4'.mono hb3.size)
      have hA := hA.below hb4'
      have hC := hC.below hb4'
      have hr3 := hr3.below hb4'
      rcases made_inv hm4 with ⟨hn4, hO4, h24⟩ | ⟨he4, hc4, hs4, hl4⟩
      · have hz4 : err4 = 2 := h24 (by unfold chk2; rw [if_pos cA]; exact cB)
        subst hz4
        go_wp2_with fail
        refine (meet_any va vc A C w4 hA hC).mono ?_
        rintro e w5 ⟨v5, err5, O5, rfl, hr5, hm5, hb5'⟩
        have hb5 := hb4.trans (hb5'.mono hb4.size)
        have HF := hide hb5
        clear hb1 hb2 hb3 hb4 hb5 hb2' hb3' hb4' hb5' hA hB hC hr2 hr3 hr4 hr5 hm4 hm5 hn4 h24 cA cB cC hc2 hc3 hs2 hs3 hl2 hl3 hO4
        go_wp2
        go_ret
        exact ⟨rfl, HF.out⟩
      · rw [he4]
        clear he4 hm4
        go_wp2_with fail
        refine (meet_any va vc A C w4 hA hC).mono ?_
        rintro e w5 ⟨v5, err5, O5, rfl, hr5, hm5, hb5'⟩
        have hb5 := hb4.trans (hb5'.mono hb4.size)
        have hr3 := hr3.below hb5'
        have hr4 := hr4.below hb5'
        rcases made_inv hm5 with ⟨hn5, hO5, h25⟩ | ⟨he5, hc5, hs5, hl5⟩
        · have hz5 : err5 = 2 := h25 (by unfold chk2; rw [if_pos cA]; exact cC)
          subst hz5
          have HF := hide hb5
          clear hb1 hb2 hb3 hb4 hb5 hb2' hb3' hb4' hb5' hA hB hC hr2 hr3 hr4 hr5 hm5 hn5 h25 cA cB cC hc2 hc3 hc4 hs2 hs3 hs4 hl2 hl3 hl4 hO5
          go_wp2
          go_ret
          exact ⟨rfl, HF.out⟩
        · rw [he5]
          clear he5 hm5
          go_wp2_with fail
          refine (union_any v4 v5 O4 O5 w5 hr4 hr5).mono ?_
          rintro e w6 ⟨v6, err6, O6, rfl, hr6, hm6, hb6'⟩
          have hb6 := hb5.trans (hb6'.mono hb5.size)
          have hr3 := hr3.below hb6'
          have h45 : chk2 O4 O5 = 0 := by unfold chk2; rw [if_pos (checkE_ok.2 ⟨hl4, hs4.1⟩)]; exact checkE_ok.2 ⟨hl5, hs5.1⟩
          rw [h45] at hm6
          obtain ⟨he6, hO6⟩ := made_is hm6 (S := O3) (isSet_congr hs3 (fun q q0 q1 => by rw [hs2.2, hs4.2, hs5.2]; simp [q0, q1]; cases ins A q <;> simp)) hl3
          rw [he6]
          rw [hO6] at hr6
          clear he6 hO6 hm6 h45
          go_wp2_with fail
          refine (same_yes v3 v6 O3 w6 hr3 hr6 (by omega)).mono ?_
          rintro e w7 ⟨rfl, hb7'⟩
          have hb7 := hb6.trans (hb7'.mono hb6.size)
          have HF := hide hb7
          clear hb1 hb2 hb3 hb4 hb5 hb6 hb7 hb2' hb3' hb4' hb5' hb6' hb7' hA hB hC hr2 hr3 hr4 hr5 hr6 cA cB cC hc2 hc3 hc4 hc5 hs2 hs3 hs4 hs5 hl2 hl3 hl4 hl5
          go_wp2
          go_ret
          exact ⟨rfl, HF.out⟩

end Go.Proofs.Ytjlnmlelmjmneab
