/- What AloneOf answers. -/
import Derived.Test.YtdipfaahlofmgaaQpat
import Derived.Deep.RegionWith
namespace Go.Proofs.Ytdipfaahlofmgaa
open Go.RowKit
set_option linter.unusedVariables false

set_option maxRecDepth 100000 in
set_option maxHeartbeats 4000000 in
theorem aloneOf_any {w0 : World} {n : NV} {t : Tr} (h : NodeC w0 n t) (hsm : smT t) (w : World) (hw0 : Below w0.heap.size w0 w) : Calls Try.prog 8 #[nvV n] w fun e w' => e = .returned (.int .i64 (aloneE t)) ∧ Below w.heap.size w w' := by
  have hb1 : Below w.heap.size w (w.alloc (nvO n)) := (Below.refl _ w).alloc (Nat.le_refl _) _
  obtain ⟨w1, hw1⟩ : ∃ w1, w1 = w.alloc (nvO n) := ⟨_, rfl⟩
  have hX1 : w1.heap[w.heap.size]? = some (nvO n) := by rw [hw1]; exact at_new _ _
  rw [← hw1] at hb1
  have HB := hide hb1
  have HX := hide hX1
  have HTG := hide (tooGreat_any h hsm w1 (hw0.trans (hb1.mono hw0.size)))
  have HK := hide (fun W (hW : Below w.heap.size w W) g => checkPat_nil h hsm g W (hw0.trans (hW.mono hw0.size)))
  have HG := hide (fun W (hW : Below w.heap.size w W) (hs : szT t ≤ 1000) => groupsOf_any h hs W (hw0.trans (hW.mono hw0.size)))
  obtain ⟨d0, d1, d2, d3, d4, d5, d6, d7⟩ := nv_cells hX1
  simp only [nvO] at hw1
  simp only [patV] at HK
  have HSz : Hid (cntA t < 1001 → szT t ≤ 1000) := cntA_sz
  have HE : Hid (aloneE t = if cntA t < 1001 then treeE t (grpT t : Nat) else 2) := rfl
  clear h hsm hw0 hb1 hX1
  by_cases hlt : cntA t < 1001
  · have hF : Hid (aloneE t = checkP t (grpT t : Nat)) := rfl
    have hs := HSz.out hlt
    rw [show (!decide (cntA t < 1001)) = false by simp [hlt]] at HTG
    rw [hF.out]
    obtain ⟨g, hg⟩ : ∃ g : Nat, g = grpT t := ⟨_, rfl⟩
    rw [← hg] at HG ⊢
    clear hlt HE HSz hF hg
    go_enter Try.func8, Try.ntmps8
    go_wp2_with fail
    rw [← hw1]
    clear hw1
    refine HTG.out.mono ?_
    rintro e w2 ⟨rfl, hb2⟩
    have HB2 := hide (HB.out.trans (hb2.mono HB.out.size))
    have HX2 := hide (show w2.heap[w.heap.size]? = some (nvO n) by rw [hb2.block _ (lt_of_block HX.out)]; exact HX.out)
    obtain ⟨b0, b1, b2, b3, b4, b5, b6, b7⟩ := nv_cells HX2.out
    clear hb2 HTG d0 d1 d2 d3 d4 d5 d6 d7
    have HB2d : Hid (Below w.heap.size w w2.drew) := HB2.out.trans ⟨rfl, rfl, rfl, Nat.le_refl _, fun _ _ => rfl⟩
    have HGq := hide (HG.out w2.drew HB2d.out hs)
    go_wp2_with fail
    go_region_with (first
      | (go_at_call 21; refine HGq.out.mono ?_; rintro e w3 ⟨rfl, hb3⟩; have HB3 := hide (HB2d.out.trans (hb3.mono HB2d.out.size)); have HX3 := hide (show w3.heap[w.heap.size]? = some (nvO n) from (by rw [hb3.block _ (lt_of_block HX2.out)]; exact HX2.out)); obtain ⟨e0, e1, e2, e3, e4, e5, e6, e7⟩ := nv_cells HX3.out; clear hb3)
      | (go_at_call 20; refine (HK.out _ HB3.out _).mono ?_; rintro e w4 ⟨rfl, hb4⟩; have HB4 := hide (HB3.out.trans (hb4.mono HB3.out.size)); clear hb4))
    all_goals (go_wp2; go_ret; exact ⟨rfl, HB4.out⟩)
  · have hF : Hid (aloneE t = 2) := by show _ = _; rw [HE.out, if_neg hlt]
    rw [show (!decide (cntA t < 1001)) = true by simp; omega] at HTG
    rw [hF.out]
    clear hlt HE HSz hF
    go_enter Try.func8, Try.ntmps8
    go_wp2_with fail
    rw [← hw1]
    clear hw1
    refine HTG.out.mono ?_
    rintro e w2 ⟨rfl, hb2⟩
    have HB2 := hide (HB.out.trans (hb2.mono HB.out.size))
    clear hb2 HTG d0 d1 d2 d3 d4 d5 d6 d7
    go_wp2
    go_ret
    exact ⟨rfl, HB2.out⟩

end Go.Proofs.Ytdipfaahlofmgaa
