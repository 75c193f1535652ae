/- ShowNodes: the walk. -/
import Derived.Test.YtpcohmbipbiglaaDoorWbeg
import Derived.Test.YtpcohmbipbiglaaDoorWnod
import Derived.Test.YtpcohmbipbiglaaDoorQgreat
namespace Go.Proofs.YtpcohmbipbiglaaDoor
open Go.RowKit
set_option linter.unusedVariables false

theorem cntA_eq {t : Tr} (h : cntA t < 1001) : cntA t = szT t := by
  have := cntT_sz 201 t 0 (by omega) h
  unfold cntA
  omega
set_option maxRecDepth 100000 in
set_option maxHeartbeats 4000000 in
theorem showNodes_walk (n : NV) (t : Tr) (w : World) (h : NodeC w n t) (hsm : smT t) : Calls Tryd.prog 3 #[nvV n] w fun e w' => e = .returned (.bool true) ∧ Below w.heap.size w w' := by
  obtain ⟨w1, hw1⟩ : ∃ w1, w1 = w.alloc (nvO n) := ⟨_, rfl⟩
  have hX1 : w1.heap[w.heap.size]? = some (nvO n) := by rw [hw1]; exact at_new _ _
  have hb1 : Below w.heap.size w w1 := by rw [hw1]; exact (Below.refl _ w).alloc (Nat.le_refl _) _
  have HN := hide (nodes_any n t w1 (h.keep hb1))
  have HG := hide (fun W (hW : Below w.heap.size w W) => tooGreat_any h hsm W hW)
  have HO := hide (fun hs W (hW : Below w.heap.size w W) => nodesOf_any h hs W hW)
  have HB1 := hide hb1
  have HX1 := hide hX1
  obtain ⟨d0, d1, d2, d3, d4, d5, d6, d7⟩ := nv_cells hX1
  simp only [nvO] at hw1
  clear h hsm hb1 hX1
  by_cases hlt : cntA t < 1001
  · have hs := cntA_sz hlt
    have he := cntA_eq hlt
    have HO2 := hide (HO.out hs)
    rw [if_pos hlt, if_pos hlt, he] at HN
    rw [show (!decide (cntA t < 1001)) = false by simp [hlt]] at HG
    obtain ⟨q, hq⟩ : ∃ q, q = szT t := ⟨_, rfl⟩
    rw [← hq] at HN HO2
    clear hlt hs he hq HO
    go_enter Tryd.func3, Tryd.ntmps3
    go_wp2_with fail
    rw [← hw1]
    clear hw1
    refine HN.out.mono ?_
    rintro e w2 ⟨rfl, hb2⟩
    have HB2 := hide (HB1.out.trans (hb2.mono HB1.out.size))
    have HX2 := hide (show w2.heap[w.heap.size]? = some (nvO n) by rw [hb2.block _ (lt_of_block HX1.out)]; exact HX1.out)
    clear hb2 HN HB1 HX1 d0 d1 d2 d3 d4 d5 d6 d7
    obtain ⟨d0, d1, d2, d3, d4, d5, d6, d7⟩ := nv_cells HX2.out
    go_wp2_with fail
    refine (HG.out w2 HB2.out).mono ?_
    rintro e w3 ⟨rfl, hb3⟩
    have HB3 := hide (HB2.out.trans (hb3.mono HB2.out.size))
    have HX3 := hide (show w3.heap[w.heap.size]? = some (nvO n) by rw [hb3.block _ (lt_of_block HX2.out)]; exact HX2.out)
    clear hb3 HG HB2 HX2 d0 d1 d2 d3 d4 d5 d6 d7
    go_wp2_with fail
    refine (showBegun_any w3).mono ?_
    rintro e w4 ⟨rfl, hb4⟩
    have HB4 := hide (HB3.out.trans (hb4.mono HB3.out.size))
    have HX4 := hide (show w4.heap[w.heap.size]? = some (nvO n) by rw [hb4.block _ (lt_of_block HX3.out)]; exact HX3.out)
    clear hb4 HB3 HX3
    obtain ⟨d0, d1, d2, d3, d4, d5, d6, d7⟩ := nv_cells HX4.out
    go_wp2_with fail
    refine (HO2.out w4 HB4.out).mono ?_
    rintro e w5 ⟨rfl, hb5⟩
    have HB5 := hide (HB4.out.trans (hb5.mono HB4.out.size))
    clear hb5 HO2 d0 d1 d2 d3 d4 d5 d6 d7
    go_wp2
    go_ret
    exact ⟨by simp, HB5.out⟩
  · rw [if_neg hlt, if_neg hlt] at HN
    rw [show (!decide (cntA t < 1001)) = true by simp; omega] at HG
    clear hlt HO
    go_enter Tryd.func3, Tryd.ntmps3
    go_wp2_with fail
    rw [← hw1]
    clear hw1
    refine HN.out.mono ?_
    rintro e w2 ⟨rfl, hb2⟩
    have HB2 := hide (HB1.out.trans (hb2.mono HB1.out.size))
    have HX2 := hide (show w2.heap[w.heap.size]? = some (nvO n) by rw [hb2.block _ (lt_of_block HX1.out)]; exact HX1.out)
    clear hb2 HN HB1 HX1 d0 d1 d2 d3 d4 d5 d6 d7
    obtain ⟨d0, d1, d2, d3, d4, d5, d6, d7⟩ := nv_cells HX2.out
    go_wp2_with fail
    refine (HG.out w2 HB2.out).mono ?_
    rintro e w3 ⟨rfl, hb3⟩
    have HB3 := hide (HB2.out.trans (hb3.mono HB2.out.size))
    clear hb3 HG HB2 HX2 d0 d1 d2 d3 d4 d5 d6 d7
    go_wp2_with fail
    refine (showBegun_any w3).mono ?_
    rintro e w4 ⟨rfl, hb4⟩
    have HB4 := hide (HB3.out.trans (hb4.mono HB3.out.size))
    clear hb4 HB3
    go_wp2
    go_ret
    exact ⟨rfl, HB4.out⟩

end Go.Proofs.YtpcohmbipbiglaaDoor
