/- What setIs answers; the walk of SetFolds. -/
import Derived.Test.YtojjfmnbpfpanaaDoorGfoldof
import Derived.Test.YtojjfmnbpfpanaaDoorSbegun
import Derived.Test.YtojjfmnbpfpanaaDoorSchkd
import Derived.Test.YtojjfmnbpfpanaaDoorGfold
namespace Go.Proofs.YtojjfmnbpfpanaaDoor
open Go.RowKit
set_option linter.unusedVariables false

theorem same_yes (va vb : Value) (A : RL) (w : World) (hA : Reads w va A) (hB : Reads w vb A) (lA : A.length ≤ 1000000) : Calls Tryd.prog 11 #[va, vb] w fun e w' => e = .returned (.bool true) ∧ Below w.heap.size w w' :=
  (sameSet_any va vb A A w hA hB lA).mono fun e w' ⟨h, q, hq⟩ => ⟨by rw [h]; simp, by rw [hq]; exact below_drewN (Below.refl _ _) q⟩
set_option maxRecDepth 100000 in
set_option maxHeartbeats 1000000 in
theorem setIs_any (va vw : Value) (A W : RL) (e c : Int) (w : World) (hA : Reads w va A) (hW : Reads w vw W)
    (h : (c ≠ 0 ∧ e = c ∧ A = []) ∨ (c = 0 ∧ ((W.length ≤ 400 ∧ e = 0 ∧ A = W) ∨ (400 < W.length ∧ e = 2 ∧ A = [])))) :
    Calls Tryd.prog 9 #[va, .int .i64 e, .int .i64 c, vw] w fun e w' => e = .returned (.bool true) ∧ Below w.heap.size w w' := by
  obtain ⟨wo, cw, hvw⟩ := hW.shape
  rcases h with ⟨h1, rfl, rfl⟩ | ⟨rfl, ⟨h1, rfl, rfl⟩ | ⟨h1, rfl, rfl⟩⟩
  · have HS := hide (same_yes va (.slice none 0 0) [] w hA (reads_nil w) (by decide))
    rw [hvw]
    have he0 : (e == 0) = false := by simpa using h1
    clear hA hW hvw h1
    go_enter Tryd.func9, Tryd.ntmps9
    go_wp2_with fail
    refine HS.out.mono ?_
    rintro e' w1 ⟨rfl, hb1⟩
    go_wp2
    go_ret
    exact ⟨rfl, hb1⟩
  · have HS := hide (same_yes va vw A w hA hW (by omega))
    obtain ⟨n, hn⟩ : ∃ n, n = A.length := ⟨_, rfl⟩
    rw [← hn] at h1 hvw
    rw [hvw] at HS ⊢
    clear hA hW hvw hn
    go_enter Tryd.func9, Tryd.ntmps9
    go_wp2_with fail
    refine HS.out.mono ?_
    rintro e' w1 ⟨rfl, hb1⟩
    go_wp2
    go_ret
    exact ⟨rfl, hb1⟩
  · have HS := hide (same_yes va (.slice none 0 0) [] w hA (reads_nil w) (by decide))
    obtain ⟨n, hn⟩ : ∃ n, n = W.length := ⟨_, rfl⟩
    rw [← hn] at h1 hvw
    rw [hvw]
    clear hA hW hvw hn
    go_enter Tryd.func9, Tryd.ntmps9
    go_wp2_with fail
    refine HS.out.mono ?_
    rintro e' w1 ⟨rfl, hb1⟩
    go_wp2
    go_ret
    exact ⟨rfl, hb1⟩

/-- what the program made against what the reference made. -/
theorem made_good {f : Int → Bool} {err : Int} {O T : RL} (hm : Made f 0 err O) (hT : IsSet f T) : (T.length ≤ 400 ∧ err = 0 ∧ O = T) ∨ (400 < T.length ∧ err = 2 ∧ O = []) := by
  rcases hm with ⟨h, _⟩ | ⟨_, S, hS, h⟩
  · exact absurd rfl h
  · have : S = T := isSet_one hS hT
    subst this
    exact h
theorem made_bad {f : Int → Bool} {c err : Int} {O : RL} (hm : Made f c err O) (hc : c ≠ 0) : err = c ∧ O = [] := by
  rcases hm with ⟨_, h⟩ | ⟨h, _⟩
  · exact h
  · exact absurd h hc

set_option maxRecDepth 100000 in
set_option maxHeartbeats 2000000 in
theorem setFolds_walk (v : Value) (L : RL) (w : World) (hT : Fo.Tab w) (hpos : 0 < w.heap.size) (hv : Reads w v L) : Calls Tryd.prog 3 #[v] w fun e w' => e = .returned (.bool true) ∧ Below w.heap.size w w' := by
  have HV := hide hv
  have HM := hide (fold_any v L w hT hpos hv)
  have HR := hide (fun w1 (h : Below w.heap.size w w1) => checkSet_any v L w1 (hv.below h))
  by_cases h0 : checkE L = 0
  · obtain ⟨hlen, hcan⟩ := checkE_ok.1 h0
    have hok := hcan.1
    rw [h0] at HM HR
    have HO := hide (fun w1 (h : Below w.heap.size w w1) => foldOf_any v L w1 (hv.below h) hlen hok)
    clear hv h0 hok hcan hT
    go_enter Tryd.func3, Tryd.ntmps3
    go_wp2_with fail
    refine HM.out.mono ?_
    rintro e w1 ⟨va, err, O, rfl, hr1, hm1, hb1⟩
    go_wp2_with fail
    refine (HR.out w1 hb1).mono ?_
    rintro e w2 ⟨rfl, hb2⟩
    have hc2 := hb1.trans (hb2.mono hb1.size)
    go_wp2_with fail
    refine (HO.out w2 hc2).mono ?_
    rintro e w3 ⟨vw, T, rfl, hr3, hs3, _, hb3⟩
    have hc3 := hc2.trans (hb3.mono hc2.size)
    go_wp2_with fail
    refine (begun_any w3).mono ?_
    rintro e w4 ⟨rfl, hb4⟩
    have hc4 := hc3.trans (hb4.mono hc3.size)
    go_wp2_with fail
    refine (setIs_any va vw O T err 0 w4 (((hr1.below hb2).below hb3).below hb4) (hr3.below hb4) (.inr ⟨rfl, made_good hm1 hs3⟩)).mono ?_
    rintro e w5 ⟨rfl, hb5⟩
    have hc5 := hide (hc4.trans (hb5.mono hc4.size))
    clear hb1 hb2 hb3 hb4 hb5 hc2 hc3 hc4 hr1 hr3 hm1 hs3
    go_wp2
    go_ret
    exact ⟨rfl, hc5.out⟩
  · have hne : Hid (checkE L ≠ 0) := h0
    obtain ⟨z, hz⟩ : ∃ z, z = checkE L := ⟨_, rfl⟩
    rw [← hz] at h0 HM HR hne
    have hz0 : (z == 0) = false := by simpa using h0
    clear hz h0 hv hT
    go_enter Tryd.func3, Tryd.ntmps3
    go_wp2_with fail
    refine HM.out.mono ?_
    rintro e w1 ⟨va, err, O, rfl, hr1, hm1, hb1⟩
    obtain ⟨he1, hO1⟩ := made_bad hm1 hne.out
    rw [he1]
    rw [hO1] at hr1
    clear he1 hO1 hm1
    go_wp2_with fail
    refine (HR.out w1 hb1).mono ?_
    rintro e w2 ⟨rfl, hb2⟩
    have hc2 := hb1.trans (hb2.mono hb1.size)
    go_wp2_with fail
    refine (begun_any w2).mono ?_
    rintro e w4 ⟨rfl, hb4⟩
    have hc4 := hc2.trans (hb4.mono hc2.size)
    go_wp2_with fail
    refine (setIs_any va (.slice none 0 0) [] [] z z w4 ((hr1.below hb2).below hb4) (reads_nil _) (.inl ⟨hne.out, rfl, rfl⟩)).mono ?_
    rintro e w5 ⟨rfl, hb5⟩
    have hc5 := hide (hc4.trans (hb5.mono hc4.size))
    clear hb1 hb2 hb4 hb5 hc2 hc4 hr1
    go_wp2
    go_ret
    exact ⟨rfl, hc5.out⟩

end Go.Proofs.YtojjfmnbpfpanaaDoor
