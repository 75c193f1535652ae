/- The walk of SetSame. -/
import Derived.Test.YtjlnmlelmjmneabSlawb
namespace Go.Proofs.Ytjlnmlelmjmneab
open Go.RowKit
set_option linter.unusedVariables false

set_option maxHeartbeats 4000000 in
theorem setSame_walk (va : Value) (A : RL) (p : Int) (w : World) (hA : Reads w va A) : Calls Try.prog 5 #[va, .int .i64 p] w fun e w' => e = .returned (.bool true) ∧ Below w.heap.size w w' := by
  by_cases h0 : checkE A = 0
  · by_cases hp : 0 ≤ p ∧ p ≤ 1114111
    · obtain ⟨p0, p1⟩ := hp
      go_enter Try.func5, Try.ntmps5
      go_wp2_with fail
      refine (begun_any w).mono ?_
      rintro e w1 ⟨rfl, hb1⟩
      have hA := hA.below hb1
      go_wp2_with fail
      refine (has_in va A p w1 hA h0 p0 p1).mono ?_
      rintro e w2 ⟨rfl, hb2'⟩
      have hb2 := hb1.trans (hb2'.mono hb1.size)
      have hA := hA.below hb2'
      go_wp2_with fail
      refine (union_any va (.slice (some ⟨w2.heap.size, 0, none⟩) 1 1) A [(p, p)] (w2.alloc (.cells #[.int .i64 p, .int .i64 p] 38)) (hA.below (below_one w2 _)) (reads_pp w2 p)).mono ?_
      rintro e w3 ⟨v3, err3, O3, rfl, hr3, hm3, hb3''⟩
      have hb3' := (below_one w2 (.cells #[.int .i64 p, .int .i64 p] 38)).trans (hb3''.mono (below_one w2 _).size)
      have hb3 := hb2.trans (hb3'.mono hb2.size)
      have hA := hA.below hb3'
      rcases made_inv hm3 with ⟨hn3, hO3, h23⟩ | ⟨he3, hc3, hs3, hl3⟩
      · have hz3 : (err3 == 0) = false := by simpa using hn3
        have HF := hide hb3
        clear hb1 hb2 hb3 hb2' hb3' hb3'' hA hr3 hm3 hn3 h23 hO3 h0
        go_wp2
        go_ret
        exact ⟨rfl, HF.out⟩
      · rw [he3]
        clear he3 hm3
        go_wp2_with fail
        refine (count_ok va A w3 hA h0).mono ?_
        rintro e w4 ⟨rfl, hb4'⟩
        have hb4 := hb3.trans (hb4'.mono hb3.size)
        have hA := hA.below hb4'
        have hr3 := hr3.below hb4'
        go_wp2_with fail
        refine (count_ok v3 O3 w4 hr3 (checkE_ok.2 ⟨hl3, hs3.1⟩)).mono ?_
        rintro e w5 ⟨rfl, hb5'⟩
        have hb5 := hb4.trans (hb5'.mono hb4.size)
        have hA := hA.below hb5'
        have hr3 := hr3.below hb5'
        go_wp2_with fail
        refine (has_in v3 O3 p w5 hr3 (checkE_ok.2 ⟨hl3, hs3.1⟩) p0 p1).mono ?_
        rintro e w6 ⟨rfl, hb6'⟩
        have hb6 := hb5.trans (hb6'.mono hb5.size)
        have hA := hA.below hb6'
        have hr3 := hr3.below hb6'
        have hin : ins O3 p = true := by rw [hs3.2]; simp [p0, p1, ins]
        rw [hin]
        obtain ⟨a0, a1⟩ := cnt_rng (checkE_ok.1 h0).2
        by_cases hpa : ins A p = true
        · have hEq : A = O3 := isSet_one (isSet_self (checkE_ok.1 h0).2) (isSet_congr hs3 (fun q q0 q1 => by
            by_cases hq : q = p
            · subst hq; rw [hpa]; simp
            · have : ins [(p, p)] q = false := by rw [ins_false]; intro r hr; simp at hr; subst hr; simp only; omega
              rw [this]; simp))
          subst hEq
          rw [hpa]
          obtain ⟨na, hna⟩ : ∃ x, x = cntL A := ⟨_, rfl⟩
          rw [← hna] at a0 a1 ⊢
          have wn : IntKind.i64.wrap (na + 0) = na := by rw [IntKind.wrap_i64]; omega
          have HSame := hide (same_yes va v3 A w6 hA hr3 (by omega))
          have HF := hide hb6
          clear hna hpa hin hs3 hl3 hc3 h0 hA hr3 hb1 hb2 hb3 hb4 hb5 hb6 hb2' hb3' hb3'' hb4' hb5' hb6'
          go_wp2_with fail
          refine HSame.out.mono ?_
          rintro e w7 ⟨rfl, hb7'⟩
          have HG := hide (HF.out.trans (hb7'.mono HF.out.size))
          clear hb7'
          go_wp2
          go_ret
          exact ⟨rfl, HG.out⟩
        · have hpa' : ins A p = false := by simpa using hpa
          have hcnt : cntL O3 = cntL A + 1 := by
            rw [cnt_isSet hs3, cnt_card (checkE_ok.1 h0).2]
            have h1 := card_or_and (ins A) (ins [(p, p)])
            have h2 : card (ins [(p, p)]) = 1 := by
              rw [← card_one p p0 p1]
              exact card_congr fun q _ _ => by simp [ins]
            have h3 : card (fun q => ins A q && ins [(p, p)] q) = 0 := by
              unfold card
              rw [List.countP_eq_zero]
              intro n _ hn
              simp only [Bool.and_eq_true] at hn
              have : (n : Int) = p := by
                obtain ⟨r, hr, h4, h5⟩ := (ins_iff _ _).1 hn.2
                simp at hr; subst hr; simp only at h4 h5; omega
              rw [this, hpa'] at hn
              simp at hn
            omega
          have hne : A ≠ O3 := fun h => by rw [← h, hpa'] at hin; simp at hin
          have HSame := hide (sameSet_any va v3 A O3 w6 hA hr3 (by have := (checkE_ok.1 h0).1; omega))
          rw [show decide (A = O3) = false from by simpa using hne] at HSame
          rw [hpa', hcnt]
          obtain ⟨na, hna⟩ : ∃ x, x = cntL A := ⟨_, rfl⟩
          rw [← hna] at a0 a1 ⊢
          have wn : IntKind.i64.wrap (na + 1) = na + 1 := by rw [IntKind.wrap_i64]; omega
          have HF := hide hb6
          clear hna hpa hpa' hin hs3 hl3 hc3 h0 hA hr3 hb1 hb2 hb3 hb4 hb5 hb6 hb2' hb3' hb3'' hb4' hb5' hb6' hcnt hne
          go_wp2_with fail
          refine HSame.out.mono ?_
          rintro e w7 ⟨rfl, q, rfl⟩
          go_wp2
          go_ret
          exact ⟨rfl, below_drewN HF.out q⟩
    · skip
      go_enter Try.func5, Try.ntmps5
      go_wp2_with fail
      refine (begun_any w).mono ?_
      rintro e w1 ⟨rfl, hb1⟩
      have hA := hA.below hb1
      go_wp2_with fail
      refine (has_out va A p w1 hA h0 hp).mono ?_
      rintro e w2 ⟨rfl, hb2'⟩
      have hb2 := hb1.trans (hb2'.mono hb1.size)
      have hA := hA.below hb2'
      go_wp2_with fail
      refine (union_any va (.slice (some ⟨w2.heap.size, 0, none⟩) 1 1) A [(p, p)] (w2.alloc (.cells #[.int .i64 p, .int .i64 p] 38)) (hA.below (below_one w2 _)) (reads_pp w2 p)).mono ?_
      rintro e w3 ⟨v3, err3, O3, rfl, hr3, hm3, hb3''⟩
      have hb3' := (below_one w2 (.cells #[.int .i64 p, .int .i64 p] 38)).trans (hb3''.mono (below_one w2 _).size)
      have hb3 := hb2.trans (hb3'.mono hb2.size)
      have HF := hide hb3
      clear hb1 hb2 hb3 hb2' hb3' hb3'' hA hr3 hm3 h0 hp
      go_wp2
      go_ret
      exact ⟨rfl, HF.out⟩
  · skip
    go_enter Try.func5, Try.ntmps5
    go_wp2_with fail
    refine (begun_any w).mono ?_
    rintro e w1 ⟨rfl, hb1⟩
    have hA := hA.below hb1
    have hzA : (checkE A == 0) = false := by simpa using h0
    have HH := hide (has_bad va A p w1 hA h0)
    obtain ⟨z, hz⟩ : ∃ z, z = checkE A := ⟨_, rfl⟩
    rw [← hz] at hzA HH
    clear hz
    go_wp2_with fail
    refine (HH.out).mono ?_
    rintro e w2 ⟨rfl, hb2'⟩
    have hb2 := hb1.trans (hb2'.mono hb1.size)
    have hA := hA.below hb2'
    go_wp2_with fail
    refine (union_any va (.slice (some ⟨w2.heap.size, 0, none⟩) 1 1) A [(p, p)] (w2.alloc (.cells #[.int .i64 p, .int .i64 p] 38)) (hA.below (below_one w2 _)) (reads_pp w2 p)).mono ?_
    rintro e w3 ⟨v3, err3, O3, rfl, hr3, hm3, hb3''⟩
    have hb3' := (below_one w2 (.cells #[.int .i64 p, .int .i64 p] 38)).trans (hb3''.mono (below_one w2 _).size)
    have hb3 := hb2.trans (hb3'.mono hb2.size)
    have HF := hide hb3
    clear hb1 hb2 hb3 hb2' hb3' hb3'' hA hr3 hm3 h0
    go_wp2
    go_ret
    exact ⟨rfl, HF.out⟩

end Go.Proofs.Ytjlnmlelmjmneab
