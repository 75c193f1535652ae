/- The walk of SetCounts. -/
import Derived.Test.YtjlnmlelmjmneabSlawb
namespace Go.Proofs.Ytjlnmlelmjmneab
open Go.RowKit
set_option linter.unusedVariables false

set_option maxHeartbeats 4000000 in
theorem setCounts_walk (va : Value) (A : RL) (vb : Value) (B : RL) (w : World) (hA : Reads w va A) (hB : Reads w vb B) : Calls Try.prog 7 #[va, vb] w fun e w' => e = .returned (.bool true) ∧ Below w.heap.size w w' := by
  go_enter Try.func7, Try.ntmps7
  go_wp2_with fail
  refine (begun_any w).mono ?_
  rintro e w1 ⟨rfl, hb1⟩
  have hA := hA.below hb1
  have hB := hB.below hb1
  go_wp2_with fail
  refine (union_any va vb A B w1 hA hB).mono ?_
  rintro e w2 ⟨v2, err2, O2, rfl, hr2, hm2, hb2'⟩
  have hb2 := hb1.trans (hb2'.mono hb1.size)
  have hA := hA.below hb2'
  have hB := hB.below hb2'
  rcases made_inv hm2 with ⟨hn2, hO2, h22⟩ | ⟨he2, hc2, hs2, hl2⟩
  · rw [hO2] at hr2
    have hz2 : (err2 == 0) = false := by simpa using hn2
    clear hO2 hm2
    go_wp2_with fail
    refine (meet_any va vb A B w2 hA hB).mono ?_
    rintro e w3 ⟨v3, err3, O3, rfl, hr3, hm3, hb3'⟩
    have hb3 := hb2.trans (hb3'.mono hb2.size)
    have HF := hide hb3
    clear hb1 hb2 hb3 hb2' hb3' hA hB hr2 hr3 hm3 hn2 h22
    go_wp2
    go_ret
    exact ⟨rfl, HF.out⟩
  · rw [he2]
    clear he2 hm2
    obtain ⟨cA, cB⟩ := chk_two hc2
    go_wp2_with fail
    refine (meet_any va vb A B w2 hA hB).mono ?_
    rintro e w3 ⟨v3, err3, O3, rfl, hr3, hm3, hb3'⟩
    have hb3 := hb2.trans (hb3'.mono hb2.size)
    have hA := hA.below hb3'
    have hB := hB.below hb3'
    have hr2 := hr2.below hb3'
    rcases made_inv hm3 with ⟨hn3, hO3, h23⟩ | ⟨he3, hc3, hs3, hl3⟩
    · have hz3 : (err3 == 0) = false := by simpa using hn3
      have HF := hide hb3
      clear hb1 hb2 hb3 hb2' hb3' hA hB hr2 hr3 hm3 hn3 h23 cA cB hc2 hs2 hl2 hO3
      go_wp2
      go_ret
      exact ⟨rfl, HF.out⟩
    · rw [he3]
      clear he3 hm3
      go_wp2_with fail
      refine (count_ok va A w3 hA cA).mono ?_
      rintro e w4 ⟨rfl, hb4'⟩
      have hb4 := hb3.trans (hb4'.mono hb3.size)
      have hB := hB.below hb4'
      have hr2 := hr2.below hb4'
      have hr3 := hr3.below hb4'
      go_wp2_with fail
      refine (count_ok vb B w4 hB cB).mono ?_
      rintro e w5 ⟨rfl, hb5'⟩
      have hb5 := hb4.trans (hb5'.mono hb4.size)
      have hr2 := hr2.below hb5'
      have hr3 := hr3.below hb5'
      go_wp2_with fail
      refine (count_ok v2 O2 w5 hr2 (checkE_ok.2 ⟨hl2, hs2.1⟩)).mono ?_
      rintro e w6 ⟨rfl, hb6'⟩
      have hb6 := hb5.trans (hb6'.mono hb5.size)
      have hr3 := hr3.below hb6'
      go_wp2_with fail
      refine (count_ok v3 O3 w6 hr3 (checkE_ok.2 ⟨hl3, hs3.1⟩)).mono ?_
      rintro e w7 ⟨rfl, hb7'⟩
      have hb7 := hb6.trans (hb7'.mono hb6.size)
      have hsum : cntL A + cntL B = cntL O2 + cntL O3 := by
        rw [cnt_isSet hs2, cnt_isSet hs3, cnt_card (checkE_ok.1 cA).2, cnt_card (checkE_ok.1 cB).2]
        have := card_or_and (ins A) (ins B)
        omega
      obtain ⟨a0, a1⟩ := cnt_rng (checkE_ok.1 cA).2
      obtain ⟨b0, b1⟩ := cnt_rng (checkE_ok.1 cB).2
      obtain ⟨c0, c1⟩ := cnt_rng hs2.1
      obtain ⟨d0, d1⟩ := cnt_rng hs3.1
      obtain ⟨na, hna⟩ : ∃ x, x = cntL A := ⟨_, rfl⟩
      obtain ⟨nb, hnb⟩ : ∃ x, x = cntL B := ⟨_, rfl⟩
      obtain ⟨nc, hnc⟩ : ∃ x, x = cntL O2 := ⟨_, rfl⟩
      obtain ⟨nd, hnd⟩ : ∃ x, x = cntL O3 := ⟨_, rfl⟩
      rw [← hna] at a0 a1 hsum ⊢
      rw [← hnb] at b0 b1 hsum ⊢
      rw [← hnc] at c0 c1 hsum ⊢
      rw [← hnd] at d0 d1 hsum ⊢
      have hnd' : nd = na + nb - nc := by omega
      subst hnd'
      have w1' : IntKind.i64.wrap (na + nb) = na + nb := by rw [IntKind.wrap_i64]; omega
      have w2' : IntKind.i64.wrap (nc + (na + nb - nc)) = na + nb := by rw [IntKind.wrap_i64]; omega
      clear hna hnb hnc hnd hsum
      have HF := hide hb7
      clear hb1 hb2 hb3 hb4 hb5 hb6 hb7 hb2' hb3' hb4' hb5' hb6' hb7' hA hB hr2 hr3 cA cB hc2 hc3 hs2 hs3 hl2 hl3
      go_wp2
      go_ret
      exact ⟨rfl, HF.out⟩

end Go.Proofs.Ytjlnmlelmjmneab
