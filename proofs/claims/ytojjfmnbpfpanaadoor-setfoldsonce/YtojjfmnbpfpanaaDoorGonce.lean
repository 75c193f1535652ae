/- The walk of SetFoldsOnce. -/
import Derived.Test.YtojjfmnbpfpanaaDoorGop
namespace Go.Proofs.YtojjfmnbpfpanaaDoor
open Go.RowKit
set_option linter.unusedVariables false

theorem made_inv {f : Int → Bool} {c err : Int} {O : RL} (h : Made f c err O) : (err ≠ 0 ∧ O = [] ∧ (c = 0 → err = 2)) ∨ (err = 0 ∧ c = 0 ∧ IsSet f O ∧ O.length ≤ 400) := by
  rcases h with ⟨h1, h2, h3⟩ | ⟨h1, S, hS, ⟨h2, h3, h4⟩ | ⟨h2, h3, h4⟩⟩
  · exact .inl ⟨by rw [h2]; exact h1, h3, fun h => absurd h h1⟩
  · subst h4; exact .inr ⟨h3, h1, hS, h2⟩
  · exact .inl ⟨by rw [h3]; decide, h4, fun _ => h3⟩
theorem same_yes (va vb : Value) (A : RL) (w : World) (hA : Reads w va A) (hB : Reads w vb A) (lA : A.length ≤ 1000000) : Calls Tryd.prog 11 #[va, vb] w fun e w' => e = .returned (.bool true) ∧ Below w.heap.size w w' :=
  (sameSet_any va vb A A w hA hB lA).mono fun e w' ⟨h, q, hq⟩ => ⟨by rw [h]; simp, by rw [hq]; exact below_drewN (Below.refl _ _) q⟩

set_option maxHeartbeats 4000000 in
theorem setFoldsOnce_walk (va : Value) (A : RL) (w : World) (hT : Fo.Tab w) (hpos : 0 < w.heap.size) (hA : Reads w va A) : Calls Tryd.prog 4 #[va] w fun e w' => e = .returned (.bool true) ∧ Below w.heap.size w w' := by
  go_enter Tryd.func4, Tryd.ntmps4
  go_wp2_with fail
  refine (begun_any w).mono ?_
  rintro e w1 ⟨rfl, hb1⟩
  have hA := hA.below hb1
  have hT1 := hide (hT.below hb1 hpos)
  have hp1 := Nat.lt_of_lt_of_le hpos hb1.size
  clear hT
  go_wp2_with fail
  refine (fold_any va A w1 hT1.out hp1 hA).mono ?_
  rintro e w2 ⟨v2, err2, O2, rfl, hr2, hm2, hb2'⟩
  have hb2 := hb1.trans (hb2'.mono hb1.size)
  have hA := hA.below hb2'
  have hT2 := hide (hT1.out.below hb2' hp1)
  have hp2 := Nat.lt_of_lt_of_le hp1 hb2'.size
  rcases made_inv hm2 with ⟨hn2, hO2, h22⟩ | ⟨he2, hc2, hs2, hl2⟩
  · have hz2 : (err2 == 0) = false := by simpa using hn2
    have HF := hide hb2
    clear hO2 hm2 hb1 hb2 hb2' hA hr2 hn2 h22
    go_wp2
    go_ret
    exact ⟨rfl, HF.out⟩
  · rw [he2]
    clear he2 hm2
    obtain ⟨lA, cA⟩ := checkE_ok.1 hc2
    have k2 : checkE O2 = 0 := checkE_ok.2 ⟨hl2, hs2.1⟩
    go_wp2_with fail
    refine (fold_any v2 O2 w2 hT2.out hp2 hr2).mono ?_
    rintro e w3 ⟨v3, err3, O3, rfl, hr3, hm3, hb3'⟩
    have hb3 := hb2.trans (hb3'.mono hb2.size)
    have hA := hA.below hb3'
    have hr2 := hr2.below hb3'
    rw [k2] at hm3
    obtain ⟨he3, hO3⟩ := made_is hm3 (fold_twice hs2) hl2
    rw [he3]
    rw [hO3] at hr3
    clear he3 hO3 hm3
    go_wp2_with fail
    refine (less_any va v2 A O2 w3 hA hr2).mono ?_
    rintro e w4 ⟨v4, err4, O4, rfl, hr4, hm4, hb4'⟩
    have hb4 := hb3.trans (hb4'.mono hb3.size)
    have hr2 := hr2.below hb4'
    have hr3 := hr3.below hb4'
    have h2AB : chk2 A O2 = 0 := by unfold chk2; rw [if_pos hc2]; exact k2
    rw [h2AB] at hm4
    obtain ⟨he4, hO4⟩ := made_is hm4 (fold_less hs2 cA) (by simp)
    rw [he4]
    rw [hO4] at hr4
    clear he4 hO4 hm4
    obtain ⟨a4, c4, hv4⟩ := hr4.shape
    have hv4 : v4 = .slice a4 0 c4 := hv4
    rw [hv4]
    have HF := hide hb4
    have HQ := hide (same_yes v2 v3 O2 w4 hr2 hr3 (by omega))
    clear hb1 hb2 hb3 hb4 hb2' hb3' hb4' hA hr4 hv4 h2AB k2 hs2 hc2 cA hr2 hr3
    go_wp2_with fail
    refine HQ.out.mono ?_
    rintro e w5 ⟨rfl, hb5'⟩
    have HG := hide (HF.out.trans (hb5'.mono HF.out.size))
    clear HQ hb5'
    go_wp2
    go_ret
    exact ⟨rfl, HG.out⟩

end Go.Proofs.YtojjfmnbpfpanaaDoor
