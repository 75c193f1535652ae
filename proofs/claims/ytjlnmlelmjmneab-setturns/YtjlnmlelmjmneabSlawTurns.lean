/- The walk of SetTurns. -/
import Derived.Test.YtjlnmlelmjmneabSlawb
namespace Go.Proofs.Ytjlnmlelmjmneab
open Go.RowKit
set_option linter.unusedVariables false

set_option maxHeartbeats 4000000 in
theorem setTurns_walk (va : Value) (A : RL) (vb : Value) (B : RL) (w : World) (hA : Reads w va A) (hB : Reads w vb B) : Calls Try.prog 4 #[va, vb] w fun e w' => e = .returned (.bool true) ∧ Below w.heap.size w w' := by
  go_enter Try.func4, Try.ntmps4
  go_wp2_with fail
  refine (begun_any w).mono ?_
  rintro e w1 ⟨rfl, hb1⟩
  have hA := hA.below hb1
  have hB := hB.below hb1
  go_wp2_with fail
  refine (not_any va A w1 hA).mono ?_
  rintro e w2 ⟨v2, err2, O2, rfl, hr2, hm2, hb2'⟩
  have hb2 := hb1.trans (hb2'.mono hb1.size)
  have hA := hA.below hb2'
  have hB := hB.below hb2'
  rcases made_inv hm2 with ⟨hn2, hO2, h22⟩ | ⟨he2, hc2, hs2, hl2⟩
  · have hz2 : (err2 == 0) = false := by simpa using hn2
    clear hO2 hm2
    go_wp2_with fail
    refine (not_any vb B w2 hB).mono ?_
    rintro e w3 ⟨v3, err3, O3, rfl, hr3, hm3, hb3'⟩
    have hb3 := hb2.trans (hb3'.mono hb2.size)
    have HF := hide hb3
    clear hb1 hb2 hb3 hb2' hb3' hA hB hr2 hr3 hm3 hn2 h22
    go_wp2
    go_ret
    exact ⟨rfl, HF.out⟩
  · rw [he2]
    clear he2 hm2
    go_wp2_with fail
    refine (not_any vb B w2 hB).mono ?_
    rintro e w3 ⟨v3, err3, O3, rfl, hr3, hm3, hb3'⟩
    have hb3 := hb2.trans (hb3'.mono hb2.size)
    have hA := hA.below hb3'
    have hB := hB.below hb3'
    have hr2 := hr2.below hb3'
    rcases made_inv hm3 with ⟨hn3, hO3, h23⟩ | ⟨he3, hc3, hs3, hl3⟩
    · have hz3 : (err3 == 0) = false := by simpa using hn3
      have HF := hide hb3
      clear hb1 hb2 hb3 hb2' hb3' hA hB hr2 hr3 hm3 hn3 h23 hc2 hs2 hl2 hO3
      go_wp2
      go_ret
      exact ⟨rfl, HF.out⟩
    · rw [he3]
      clear he3 hm3
      obtain ⟨lA, cA⟩ := checkE_ok.1 hc2
      obtain ⟨lB, cB⟩ := checkE_ok.1 hc3
      have k2 : checkE O2 = 0 := checkE_ok.2 ⟨hl2, hs2.1⟩
      have k3 : checkE O3 = 0 := checkE_ok.2 ⟨hl3, hs3.1⟩
      go_wp2_with fail
      refine (not_any v2 O2 w3 hr2).mono ?_
      rintro e w4 ⟨v4, err4, O4, rfl, hr4, hm4, hb4'⟩
      have hb4 := hb3.trans (hb4'.mono hb3.size)
      have hA := hA.below hb4'
      have hB := hB.below hb4'
      have hr2 := hr2.below hb4'
      have hr3 := hr3.below hb4'
      rw [k2] at hm4
      obtain ⟨he4, hO4⟩ := made_is hm4 (S := A) (isSet_congr (isSet_self cA) (fun q q0 q1 => by rw [hs2.2]; simp [q0, q1])) lA
      rw [he4]
      rw [hO4] at hr4
      clear he4 hO4 hm4
      go_wp2_with fail
      refine (same_yes v4 va A w4 hr4 hA (by omega)).mono ?_
      rintro e w5 ⟨rfl, hb5'⟩
      have hb5 := hb4.trans (hb5'.mono hb4.size)
      have hA := hA.below hb5'
      have hB := hB.below hb5'
      have hr2 := hr2.below hb5'
      have hr3 := hr3.below hb5'
      go_wp2_with fail
      refine (union_any va vb A B w5 hA hB).mono ?_
      rintro e w6 ⟨v6, err6, O6, rfl, hr6, hm6, hb6'⟩
      have hb6 := hb5.trans (hb6'.mono hb5.size)
      have hA := hA.below hb6'
      have hB := hB.below hb6'
      have hr2 := hr2.below hb6'
      have hr3 := hr3.below hb6'
      go_wp2_with fail
      refine (meet_any v2 v3 O2 O3 w6 hr2 hr3).mono ?_
      rintro e w7 ⟨v7, err7, O7, rfl, hr7, hm7, hb7'⟩
      have hb7 := hb6.trans (hb7'.mono hb6.size)
      have hA := hA.below hb7'
      have hB := hB.below hb7'
      have hr6 := hr6.below hb7'
      have h2AB : chk2 A B = 0 := by unfold chk2; rw [if_pos hc2]; exact hc3
      have h223 : chk2 O2 O3 = 0 := by unfold chk2; rw [if_pos k2]; exact k3
      rw [h2AB] at hm6
      rw [h223] at hm7
      rcases made_inv hm6 with ⟨hn6, hO6, h26⟩ | ⟨he6, hc6, hs6, hl6⟩
      · have hz6 : (err6 == 0) = false := by simpa using hn6
        clear hO6 hm6 hm7
        go_wp2_with fail
        refine (less_any va vb A B w7 hA hB).mono ?_
        rintro e w8 ⟨v8, err8, O8, rfl, hr8, hm8, hb8'⟩
        have hb8 := hb7.trans (hb8'.mono hb7.size)
        have hB := hB.below hb8'
        rw [h2AB] at hm8
        rcases made_inv hm8 with ⟨hn8, hO8, h28⟩ | ⟨he8, hc8, hs8, hl8⟩
        · have hz8 : (err8 == 0) = false := by simpa using hn8
          clear hO8 hm8
          go_wp2_with fail
          refine (meet_any v8 vb O8 B w8 hr8 hB).mono ?_
          rintro e w9 ⟨v9, err9, O9, rfl, hr9, hm9, hb9'⟩
          have hb9 := hb8.trans (hb9'.mono hb8.size)
          have HF := hide hb9
          clear hb1 hb2 hb3 hb4 hb5 hb6 hb7 hb8 hb9 hb2' hb3' hb4' hb5' hb6' hb7' hb8' hb9' hA hB hr2 hr3 hr4 hr6 hr7 hr8 hr9 hm9 hn8 h28 hc2 hc3 k2 k3 hs2 hs3 hl2 hl3 lA lB cA cB h2AB h223 hn6 h26
          go_wp2
          go_ret
          exact ⟨rfl, HF.out⟩
        · rw [he8]
          clear he8 hm8
          go_wp2_with fail
          refine (meet_any v8 vb O8 B w8 hr8 hB).mono ?_
          rintro e w9 ⟨v9, err9, O9, rfl, hr9, hm9, hb9'⟩
          have hb9 := hb8.trans (hb9'.mono hb8.size)
          have hkk : chk2 O8 B = 0 := by unfold chk2; rw [if_pos (checkE_ok.2 ⟨hl8, hs8.1⟩)]; exact hc3
          rw [hkk] at hm9
          obtain ⟨hee, hOO⟩ := made_is hm9 (S := []) ⟨canon_nil, fun q => by simp only [ins_nil]; rw [hs8.2]; cases hq : ins B q <;> simp [hq]⟩ (by decide)
          rw [hee]
          rw [hOO] at hr9
          obtain ⟨lo, lc, hlv⟩ := hr9.shape
          rw [hlv]
          have HF := hide hb9
          clear hb1 hb2 hb3 hb4 hb5 hb6 hb7 hb8 hb9 hb2' hb3' hb4' hb5' hb6' hb7' hb8' hb9' hA hB hr2 hr3 hr4 hr6 hr7 hr8 hr9 hm9 hc2 hc3 k2 k3 hs2 hs3 hl2 hl3 lA lB cA cB h2AB h223 hkk hee hOO hlv hs8 hl8 hc8 hn6 h26
          go_wp2
          go_ret
          exact ⟨rfl, HF.out⟩
      · rw [he6]
        clear he6 hm6
        rcases made_inv hm7 with ⟨hn7, hO7, h27⟩ | ⟨he7, hc7, hs7, hl7⟩
        · have hz7 : (err7 == 0) = false := by simpa using hn7
          clear hO7 hm7
          go_wp2_with fail
          refine (less_any va vb A B w7 hA hB).mono ?_
          rintro e w8 ⟨v8, err8, O8, rfl, hr8, hm8, hb8'⟩
          have hb8 := hb7.trans (hb8'.mono hb7.size)
          have hB := hB.below hb8'
          rw [h2AB] at hm8
          rcases made_inv hm8 with ⟨hn8, hO8, h28⟩ | ⟨he8, hc8, hs8, hl8⟩
          · have hz8 : (err8 == 0) = false := by simpa using hn8
            clear hO8 hm8
            go_wp2_with fail
            refine (meet_any v8 vb O8 B w8 hr8 hB).mono ?_
            rintro e w9 ⟨v9, err9, O9, rfl, hr9, hm9, hb9'⟩
            have hb9 := hb8.trans (hb9'.mono hb8.size)
            have HF := hide hb9
            clear hb1 hb2 hb3 hb4 hb5 hb6 hb7 hb8 hb9 hb2' hb3' hb4' hb5' hb6' hb7' hb8' hb9' hA hB hr2 hr3 hr4 hr6 hr7 hr8 hr9 hm9 hn8 h28 hc2 hc3 k2 k3 hs2 hs3 hl2 hl3 lA lB cA cB h2AB h223 hn7 h27 hs6 hl6 hc6
            go_wp2
            go_ret
            exact ⟨rfl, HF.out⟩
          · rw [he8]
            clear he8 hm8
            go_wp2_with fail
            refine (meet_any v8 vb O8 B w8 hr8 hB).mono ?_
            rintro e w9 ⟨v9, err9, O9, rfl, hr9, hm9, hb9'⟩
            have hb9 := hb8.trans (hb9'.mono hb8.size)
            have hkk : chk2 O8 B = 0 := by unfold chk2; rw [if_pos (checkE_ok.2 ⟨hl8, hs8.1⟩)]; exact hc3
            rw [hkk] at hm9
            obtain ⟨hee, hOO⟩ := made_is hm9 (S := []) ⟨canon_nil, fun q => by simp only [ins_nil]; rw [hs8.2]; cases hq : ins B q <;> simp [hq]⟩ (by decide)
            rw [hee]
            rw [hOO] at hr9
            obtain ⟨lo, lc, hlv⟩ := hr9.shape
            rw [hlv]
            have HF := hide hb9
            clear hb1 hb2 hb3 hb4 hb5 hb6 hb7 hb8 hb9 hb2' hb3' hb4' hb5' hb6' hb7' hb8' hb9' hA hB hr2 hr3 hr4 hr6 hr7 hr8 hr9 hm9 hc2 hc3 k2 k3 hs2 hs3 hl2 hl3 lA lB cA cB h2AB h223 hkk hee hOO hlv hs8 hl8 hc8 hn7 h27 hs6 hl6 hc6
            go_wp2
            go_ret
            exact ⟨rfl, HF.out⟩
        · rw [he7]
          clear he7 hm7
          go_wp2_with fail
          refine (not_any v6 O6 w7 hr6).mono ?_
          rintro e w8 ⟨v8, err8, O8, rfl, hr8, hm8, hb8'⟩
          have hb8 := hb7.trans (hb8'.mono hb7.size)
          have hA := hA.below hb8'
          have hB := hB.below hb8'
          have hr7 := hr7.below hb8'
          rw [checkE_ok.2 ⟨hl6, hs6.1⟩] at hm8
          rcases made_inv hm8 with ⟨hn8, hO8, h28⟩ | ⟨he8, hc8, hs8, hl8⟩
          · have hz8 : (err8 == 0) = false := by simpa using hn8
            clear hO8 hm8
            go_wp2_with fail
            refine (less_any va vb A B w8 hA hB).mono ?_
            rintro e w9 ⟨v9, err9, O9, rfl, hr9, hm9, hb9'⟩
            have hb9 := hb8.trans (hb9'.mono hb8.size)
            have hB := hB.below hb9'
            rw [h2AB] at hm9
            rcases made_inv hm9 with ⟨hn9, hO9, h29⟩ | ⟨he9, hc9, hs9, hl9⟩
            · have hz9 : (err9 == 0) = false := by simpa using hn9
              clear hO9 hm9
              go_wp2_with fail
              refine (meet_any v9 vb O9 B w9 hr9 hB).mono ?_
              rintro e w10 ⟨v10, err10, O10, rfl, hr10, hm10, hb10'⟩
              have hb10 := hb9.trans (hb10'.mono hb9.size)
              have HF := hide hb10
              clear hb1 hb2 hb3 hb4 hb5 hb6 hb7 hb8 hb9 hb10 hb2' hb3' hb4' hb5' hb6' hb7' hb8' hb9' hb10' hA hB hr2 hr3 hr4 hr6 hr7 hr9 hr10 hm10 hn9 h29 hc2 hc3 k2 k3 hs2 hs3 hl2 hl3 lA lB cA cB h2AB h223 hn8 h28 hs6 hl6 hc6 hs7 hl7 hc7 hr8
              go_wp2
              go_ret
              exact ⟨rfl, HF.out⟩
            · rw [he9]
              clear he9 hm9
              go_wp2_with fail
              refine (meet_any v9 vb O9 B w9 hr9 hB).mono ?_
              rintro e w10 ⟨v10, err10, O10, rfl, hr10, hm10, hb10'⟩
              have hb10 := hb9.trans (hb10'.mono hb9.size)
              have hkk : chk2 O9 B = 0 := by unfold chk2; rw [if_pos (checkE_ok.2 ⟨hl9, hs9.1⟩)]; exact hc3
              rw [hkk] at hm10
              obtain ⟨hee, hOO⟩ := made_is hm10 (S := []) ⟨canon_nil, fun q => by simp only [ins_nil]; rw [hs9.2]; cases hq : ins B q <;> simp [hq]⟩ (by decide)
              rw [hee]
              rw [hOO] at hr10
              obtain ⟨lo, lc, hlv⟩ := hr10.shape
              rw [hlv]
              have HF := hide hb10
              clear hb1 hb2 hb3 hb4 hb5 hb6 hb7 hb8 hb9 hb10 hb2' hb3' hb4' hb5' hb6' hb7' hb8' hb9' hb10' hA hB hr2 hr3 hr4 hr6 hr7 hr9 hr10 hm10 hc2 hc3 k2 k3 hs2 hs3 hl2 hl3 lA lB cA cB h2AB h223 hkk hee hOO hlv hs9 hl9 hc9 hn8 h28 hs6 hl6 hc6 hs7 hl7 hc7 hr8
              go_wp2
              go_ret
              exact ⟨rfl, HF.out⟩
          · rw [he8]
            have h87 : O8 = O7 := isSet_one hs8 (isSet_congr hs7 (fun q q0 q1 => by rw [hs6.2, hs2.2, hs3.2]; simp [q0, q1]))
            rw [h87] at hr8
            clear he8 hm8 h87
            go_wp2_with fail
            refine (same_yes v8 v7 O7 w8 hr8 hr7 (by omega)).mono ?_
            rintro e w9 ⟨rfl, hb9'⟩
            have hb9 := hb8.trans (hb9'.mono hb8.size)
            have hA := hA.below hb9'
            have hB := hB.below hb9'
            go_wp2_with fail
            refine (less_any va vb A B w9 hA hB).mono ?_
            rintro e w10 ⟨v10, err10, O10, rfl, hr10, hm10, hb10'⟩
            have hb10 := hb9.trans (hb10'.mono hb9.size)
            have hB := hB.below hb10'
            rw [h2AB] at hm10
            rcases made_inv hm10 with ⟨hn10, hO10, h210⟩ | ⟨he10, hc10, hs10, hl10⟩
            · have hz10 : (err10 == 0) = false := by simpa using hn10
              clear hO10 hm10
              go_wp2_with fail
              refine (meet_any v10 vb O10 B w10 hr10 hB).mono ?_
              rintro e w11 ⟨v11, err11, O11, rfl, hr11, hm11, hb11'⟩
              have hb11 := hb10.trans (hb11'.mono hb10.size)
              have HF := hide hb11
              clear hb1 hb2 hb3 hb4 hb5 hb6 hb7 hb8 hb9 hb10 hb11 hb2' hb3' hb4' hb5' hb6' hb7' hb8' hb9' hb10' hb11' hA hB hr2 hr3 hr4 hr6 hr7 hr10 hr11 hm11 hn10 h210 hc2 hc3 k2 k3 hs2 hs3 hl2 hl3 lA lB cA cB h2AB h223 hs6 hl6 hc6 hs7 hl7 hc7 hs8 hl8 hc8 hr8
              go_wp2
              go_ret
              exact ⟨rfl, HF.out⟩
            · rw [he10]
              clear he10 hm10
              go_wp2_with fail
              refine (meet_any v10 vb O10 B w10 hr10 hB).mono ?_
              rintro e w11 ⟨v11, err11, O11, rfl, hr11, hm11, hb11'⟩
              have hb11 := hb10.trans (hb11'.mono hb10.size)
              have hkk : chk2 O10 B = 0 := by unfold chk2; rw [if_pos (checkE_ok.2 ⟨hl10, hs10.1⟩)]; exact hc3
              rw [hkk] at hm11
              obtain ⟨hee, hOO⟩ := made_is hm11 (S := []) ⟨canon_nil, fun q => by simp only [ins_nil]; rw [hs10.2]; cases hq : ins B q <;> simp [hq]⟩ (by decide)
              rw [hee]
              rw [hOO] at hr11
              obtain ⟨lo, lc, hlv⟩ := hr11.shape
              rw [hlv]
              have HF := hide hb11
              clear hb1 hb2 hb3 hb4 hb5 hb6 hb7 hb8 hb9 hb10 hb11 hb2' hb3' hb4' hb5' hb6' hb7' hb8' hb9' hb10' hb11' hA hB hr2 hr3 hr4 hr6 hr7 hr10 hr11 hm11 hc2 hc3 k2 k3 hs2 hs3 hl2 hl3 lA lB cA cB h2AB h223 hkk hee hOO hlv hs10 hl10 hc10 hs6 hl6 hc6 hs7 hl7 hc7 hs8 hl8 hc8 hr8
              go_wp2
              go_ret
              exact ⟨rfl, HF.out⟩

end Go.Proofs.Ytjlnmlelmjmneab
