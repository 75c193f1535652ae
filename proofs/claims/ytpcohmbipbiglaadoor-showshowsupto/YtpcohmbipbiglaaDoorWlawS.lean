/- ShowShows: the walk. -/
import Derived.Test.YtpcohmbipbiglaaDoorMlawS
import Derived.Test.YtpcohmbipbiglaaDoorWs5
import Derived.Test.YtpcohmbipbiglaaDoorRs3
namespace Go.Proofs.YtpcohmbipbiglaaDoor
open Go.RowKit
set_option linter.unusedVariables false

set_option maxRecDepth 100000 in
set_option maxHeartbeats 8000000 in
theorem showShows_walk (n : NV) (t : Tr) (g : Int) (na : Option Addr) (nl nc : Nat) (N : NmL) (w : World) (h : NodeC w n t) (hsm : smT t) (hTab : Tab w) (hN : NamesC w (.slice na nl nc) N) (hnz : ∀ i, i < N.length → (ntx N i).size ≤ 1048576) : Calls Tryd.prog 5 #[patNV n g na nl nc] w fun e w' => e = .returned (.bool true) ∧ Below w.heap.size w w' := by
  have hb : Below w.heap.size w (w.alloc (patNO n g na nl nc)) := (Below.refl _ _).alloc (Nat.le_refl _) _
  have HP := hide (fun W (hW : Below w.heap.size w W) => show_any n t g na nl nc N W (h.keep hW) (hTab.keep hW) (hN.below hW) hnz)
  have HQ := hide (fun W (hW : Below w.heap.size w W) => checkPat_any h hsm g na nl nc N W hW (hN.below hW) hnz)
  have HR : Hid (PatE t g N 0 → ∀ W, Below w.heap.size w W → Calls Tryd.prog 13 #[nvV n, .slice na nl nc] W fun e w' => e = .returned (.string ⟨(shT N t).toArray⟩) ∧ Below W.heap.size W w') := fun hz W hW => by
    obtain ⟨h1, h2, h3⟩ := hz.okay
    exact refNode_any h na nl nc N hN h3 hnz h2 h1 (hz.short hnz) W hW
  obtain ⟨w1, hw1⟩ : ∃ w1, w1 = w.alloc (patNO n g na nl nc) := ⟨_, rfl⟩
  have hbox : w1.heap[w.heap.size]? = some (patNO n g na nl nc) := by rw [hw1]; exact at_new _ _
  rw [← hw1] at hb
  have HB := hide hb
  have HX := hide hbox
  have HSh : Hid (∀ z, z ≠ 0 → shS N t z = ⟨#[]⟩) := fun z hz => by unfold shS; rw [if_neg hz]
  have HS0 : Hid (shS N t 0 = ⟨(shT N t).toArray⟩) := rfl
  obtain ⟨bx, hbx⟩ : ∃ bx, bx = w.heap.size := ⟨_, rfl⟩
  rw [← hbx] at HX
  simp only [patNO] at hw1
  simp only [patNV] at HP HQ ⊢
  simp only [nvV] at HR
  clear h hsm hN hnz hb hbox hTab
  obtain ⟨⟨d0, d1, d2, d3, d4, d5, d6, d7⟩, d8, d9⟩ := patN_cells HX.out
  go_enter Tryd.func5, Tryd.ntmps5
  go_upto_region 1 with fail
  rw [← hw1, ← hbx]
  clear hw1 hbx
  go_wp2_with fail
  refine (HP.out w1 HB.out).mono ?_
  rintro e w2 ⟨z, hz, rfl, hb2⟩
  have HZ := hide hz
  have HB2 := hide (HB.out.trans (hb2.mono HB.out.size))
  have HX2 := hide (show w2.heap[bx]? = some (patNO n g na nl nc) by rw [hb2.block _ (lt_of_block HX.out)]; exact HX.out)
  clear hz hb2 d0 d1 d2 d3 d4 d5 d6 d7 d8 d9 HP
  obtain ⟨⟨d0, d1, d2, d3, d4, d5, d6, d7⟩, d8, d9⟩ := patN_cells HX2.out
  obtain ⟨R, hR⟩ : ∃ R, R = shS N t z := ⟨_, rfl⟩
  rw [← hR]
  have HRe := hide hR
  clear hR
  go_wp2_with fail
  refine (HQ.out w2 HB2.out).mono ?_
  rintro e w3 ⟨z', hz', rfl, hb3⟩
  have hzz := HZ.out.one hz'
  subst hzz
  have HB3 := hide (HB2.out.trans (hb3.mono HB2.out.size))
  have HX3 := hide (show w3.heap[bx]? = some (patNO n g na nl nc) by rw [hb3.block _ (lt_of_block HX2.out)]; exact HX2.out)
  clear hz' hb3 d0 d1 d2 d3 d4 d5 d6 d7 d8 d9 HQ
  obtain ⟨⟨d0, d1, d2, d3, d4, d5, d6, d7⟩, d8, d9⟩ := patN_cells HX3.out
  by_cases hz0 : z = 0
  · subst hz0
    have HN := hide (HR.out HZ.out w3 HB3.out)
    rw [← HS0.out, ← HRe.out] at HN
    clear HSh HS0 HRe HR
    go_wp2_with fail
    refine HN.out.mono ?_
    rintro e w4 ⟨rfl, hb4⟩
    have HB4 := hide (HB3.out.trans (hb4.mono HB3.out.size))
    clear hb4 d0 d1 d2 d3 d4 d5 d6 d7 d8 d9 HN
    go_wp2_with fail
    refine (showBegun_any w4).mono ?_
    rintro e w5 ⟨rfl, hb5⟩
    have HB5 := hide (HB4.out.trans (hb5.mono HB4.out.size))
    clear hb5
    go_wp2
    go_ret
    exact ⟨by first | rfl | simp [go_sem], HB5.out⟩
  · have hRn := HSh.out z hz0
    rw [← HRe.out] at hRn
    subst hRn
    have hzb : (z == 0) = false := by simpa using hz0
    clear HSh HS0 HRe HR
    go_wp2_with fail
    refine (showBegun_any w3).mono ?_
    rintro e w5 ⟨rfl, hb5⟩
    have HB5 := hide (HB3.out.trans (hb5.mono HB3.out.size))
    clear hb5 d0 d1 d2 d3 d4 d5 d6 d7 d8 d9
    go_wp2
    go_ret
    exact ⟨by first | rfl | simp [go_sem], HB5.out⟩

end Go.Proofs.YtpcohmbipbiglaaDoor
