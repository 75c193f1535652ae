/- FactsOf: the walk. -/
import Derived.Test.YtdipfaahlofmgaaQalone
import Derived.Test.YtdipfaahlofmgaaQwide3
import Derived.Test.YtdipfaahlofmgaaQplain
import Derived.Test.YtdipfaahlofmgaaNbeg
namespace Go.Proofs.Ytdipfaahlofmgaa
open Go.RowKit
set_option linter.unusedVariables false

theorem alone_sz {t : Tr} (h : aloneE t = 0) : szT t ≤ 1000 := by
  unfold aloneE checkP at h
  split at h
  · rename_i h1; exact cntA_sz h1
  · omega
set_option maxRecDepth 100000 in
set_option maxHeartbeats 4000000 in
theorem factsOf_walk (n : NV) (t : Tr) (w : World) (h : NodeC w n t) (hsm : smT t) : Calls Try.prog 3 #[nvV n] w fun e w' => e = .returned (.bool true) ∧ Below w.heap.size w w' := by
  have hb1 : Below w.heap.size w (w.alloc (nvO n)) := (Below.refl _ w).alloc (Nat.le_refl _) _
  obtain ⟨w1, hw1⟩ : ∃ w1, w1 = w.alloc (nvO n) := ⟨_, rfl⟩
  have hX1 : w1.heap[w.heap.size]? = some (nvO n) := by rw [hw1]; exact at_new _ _
  rw [← hw1] at hb1
  have HB1 := hide hb1
  have HX1 := hide hX1
  have HO := hide (of_any n t w1 (h.keep hb1))
  have HA := hide (fun W (hW : Below w.heap.size w W) => aloneOf_any h hsm W hW)
  have HWd := hide (fun hz W (hW : Below w.heap.size w W) => wide_any h (alone_good hz) W hW)
  have HPl := hide (fun (hz : aloneE t = 0) W (hW : Below w.heap.size w W) => isPlain_any h (alone_sz hz) W hW)
  have HPe := hide (fun (hz : aloneE t = 0) => plain_flat t (alone_good hz))
  have HF0 : Hid (aloneE t ≠ 0 → ofF t = ⟨0, 0, false⟩) := fun hz => by unfold ofF; rw [if_neg hz]
  have HF1 : Hid (aloneE t = 0 → ofF t = factT t) := fun hz => by unfold ofF; rw [if_pos hz]
  obtain ⟨d0, d1, d2, d3, d4, d5, d6, d7⟩ := nv_cells hX1
  obtain ⟨z, hz⟩ : ∃ z, z = aloneE t := ⟨_, rfl⟩
  rw [← hz] at HO HA HWd HPl HPe HF0 HF1
  obtain ⟨F, hF⟩ : ∃ F, F = ofF t := ⟨_, rfl⟩
  rw [← hF] at HO HF0 HF1
  simp only [nvO] at hw1
  clear h hsm hb1 hX1 hz hF
  obtain ⟨fl, fm, fp⟩ := F
  simp only [ftV] at HO
  go_enter Try.func3, Try.ntmps3
  go_wp2_with fail
  rw [← hw1]
  clear hw1
  refine HO.out.mono ?_
  rintro e w2 ⟨rfl, hb2⟩
  have HB2 := hide (HB1.out.trans (hb2.mono HB1.out.size))
  have HX2 := hide (show w2.heap[w.heap.size]? = some (nvO n) by rw [hb2.block _ (lt_of_block HX1.out)]; exact HX1.out)
  clear hb2 HO HB1 HX1 d0 d1 d2 d3 d4 d5 d6 d7
  obtain ⟨w3, hw3⟩ : ∃ w3, w3 = w2.alloc (ftO ⟨fl, fm, fp⟩) := ⟨_, rfl⟩
  have HB3 : Hid (Below w.heap.size w w3) := by show Below _ _ _; rw [hw3]; exact HB2.out.alloc HB2.out.size _
  have HX3 : Hid (w3.heap[w.heap.size]? = some (nvO n)) := by show _ = _; rw [hw3]; exact at_old HX2.out
  have HP3 : Hid (w3.heap[w2.heap.size]? = some (ftO ⟨fl, fm, fp⟩)) := by show _ = _; rw [hw3]; exact at_new _ _
  obtain ⟨p, hp⟩ : ∃ p, p = w2.heap.size := ⟨_, rfl⟩
  rw [← hp] at HP3
  simp only [ftO] at hw3
  obtain ⟨d0, d1, d2, d3, d4, d5, d6, d7⟩ := nv_cells HX3.out
  clear HB2 HX2
  go_upto_region 2 with fail
  rw [← hw3, ← hp]
  clear hw3 hp
  go_wp2_with fail
  refine (HA.out w3 HB3.out).mono ?_
  rintro e w4 ⟨rfl, hb4⟩
  have HB4 := hide (HB3.out.trans (hb4.mono HB3.out.size))
  have HX4 := hide (show w4.heap[w.heap.size]? = some (nvO n) by rw [hb4.block _ (lt_of_block HX3.out)]; exact HX3.out)
  have HP4 := hide (show w4.heap[p]? = some (ftO ⟨fl, fm, fp⟩) by rw [hb4.block _ (lt_of_block HP3.out)]; exact HP3.out)
  clear hb4 HA HB3 HX3 HP3 d0 d1 d2 d3 d4 d5 d6 d7
  obtain ⟨w5, hw5⟩ : ∃ w5, w5 = w4.alloc (ftO ⟨0, 0, false⟩) := ⟨_, rfl⟩
  have HB5 : Hid (Below w.heap.size w w5) := by show Below _ _ _; rw [hw5]; exact HB4.out.alloc HB4.out.size _
  have HX5 : Hid (w5.heap[w.heap.size]? = some (nvO n)) := by show _ = _; rw [hw5]; exact at_old HX4.out
  have HP5 : Hid (w5.heap[p]? = some (ftO ⟨fl, fm, fp⟩)) := by show _ = _; rw [hw5]; exact at_old HP4.out
  have HQ5 : Hid (w5.heap[w4.heap.size]? = some (ftO ⟨0, 0, false⟩)) := by show _ = _; rw [hw5]; exact at_new _ _
  obtain ⟨q, hq⟩ : ∃ q, q = w4.heap.size := ⟨_, rfl⟩
  have hpq : p < q := by rw [hq]; exact lt_of_block HP4.out
  have hwq : w.heap.size < q := by rw [hq]; exact lt_of_block HX4.out
  rw [← hq] at HQ5
  simp only [ftO] at hw5
  clear HB4 HX4 HP4
  go_upto_region 4 with fail
  rw [← hw5, ← hq]
  clear hw5 hq
  by_cases hz0 : z = 0
  · subst hz0
    have hF := HF1.out rfl
    have hPe := HPe.out rfl
    have HWd2 := hide (HWd.out rfl w5 HB5.out)
    have HPl2 := hide (HPl.out rfl)
    rw [← hPe, ← hF] at HPl2
    rw [← hF] at HWd2
    simp only [wdV] at HWd2
    obtain ⟨d0, d1, d2, d3, d4, d5, d6, d7⟩ := nv_cells HX5.out
    clear HF0 HF1 hF HPe hPe HWd HPl
    go_wp2_with fail
    refine HWd2.out.mono ?_
    rintro e w6 ⟨rfl, hb6⟩
    have HB6 := hide (HB5.out.trans (hb6.mono HB5.out.size))
    have HX6 := hide (show w6.heap[w.heap.size]? = some (nvO n) by rw [hb6.block _ (lt_of_block HX5.out)]; exact HX5.out)
    have HP6 := hide (show w6.heap[p]? = some (ftO ⟨fl, fm, fp⟩) by rw [hb6.block _ (lt_of_block HP5.out)]; exact HP5.out)
    have HQ6 := hide (show w6.heap[q]? = some (ftO ⟨0, 0, false⟩) by rw [hb6.block _ (lt_of_block HQ5.out)]; exact HQ5.out)
    clear hb6 HWd2 HB5 HX5 HP5 HQ5 d0 d1 d2 d3 d4 d5 d6 d7
    obtain ⟨w7, hw7⟩ : ∃ w7, w7 = (w6.setCell ⟨q, 0, none⟩ (.int .i64 fl)).setCell ⟨q, 1, none⟩ (.int .i64 fm) := ⟨_, rfl⟩
    have HB7 : Hid (Below w.heap.size w w7) := by show Below _ _ _; rw [hw7]; exact (HB6.out.setCell (p := ⟨q, 0, none⟩) (by show w.heap.size ≤ q; omega) _).setCell (p := ⟨q, 1, none⟩) (by show w.heap.size ≤ q; omega) _
    have HX7 : Hid (w7.heap[w.heap.size]? = some (nvO n)) := by show _ = _; rw [hw7, Below.heap_setCell _ _ _ _ (fun e => by have e' : w.heap.size = q := e; omega), Below.heap_setCell _ _ _ _ (fun e => by have e' : w.heap.size = q := e; omega)]; exact HX6.out
    have HP7 : Hid (w7.heap[p]? = some (ftO ⟨fl, fm, fp⟩)) := by show _ = _; rw [hw7, Below.heap_setCell _ _ _ _ (fun e => by have e' : p = q := e; omega), Below.heap_setCell _ _ _ _ (fun e => by have e' : p = q := e; omega)]; exact HP6.out
    have HQ7 : Hid (w7.heap[q]? = some (ftO ⟨fl, fm, false⟩)) := by show _ = _; rw [hw7, set_one' (set_one' HQ6.out _ _) _ _]; rfl
    obtain ⟨q0, q1, q2, qf⟩ := ft_cells HQ6.out
    simp only at q0 q1 q2
    go_upto_region 6 with fail
    rw [← hw7]
    clear hw7 q0 q1 q2 qf HB6 HX6 HP6 HQ6
    obtain ⟨d0, d1, d2, d3, d4, d5, d6, d7⟩ := nv_cells HX7.out
    go_wp2_with fail
    refine (HPl2.out w7 HB7.out).mono ?_
    rintro e w8 ⟨rfl, hb8⟩
    have HB8 := hide (HB7.out.trans (hb8.mono HB7.out.size))
    have HP8 := hide (show w8.heap[p]? = some (ftO ⟨fl, fm, fp⟩) by rw [hb8.block _ (lt_of_block HP7.out)]; exact HP7.out)
    have HQ8 := hide (show w8.heap[q]? = some (ftO ⟨fl, fm, false⟩) by rw [hb8.block _ (lt_of_block HQ7.out)]; exact HQ7.out)
    clear hb8 HPl2 HB7 HX7 HP7 HQ7 d0 d1 d2 d3 d4 d5 d6 d7
    obtain ⟨w9, hw9⟩ : ∃ w9, w9 = w8.setCell ⟨q, 2, none⟩ (.bool fp) := ⟨_, rfl⟩
    have HB9 : Hid (Below w.heap.size w w9) := by show Below _ _ _; rw [hw9]; exact HB8.out.setCell (p := ⟨q, 2, none⟩) (by show w.heap.size ≤ q; omega) _
    have HP9 : Hid (w9.heap[p]? = some (ftO ⟨fl, fm, fp⟩)) := by show _ = _; rw [hw9, Below.heap_setCell _ _ _ _ (fun e => by have e' : p = q := e; omega)]; exact HP8.out
    have HQ9 : Hid (w9.heap[q]? = some (ftO ⟨fl, fm, fp⟩)) := by show _ = _; rw [hw9, set_one' HQ8.out _ _]; rfl
    obtain ⟨q0, q1, q2, qf⟩ := ft_cells HQ8.out
    simp only at q0 q1 q2
    go_upto_region 7 with fail
    rw [← hw9]
    clear hw9 q0 q1 q2 qf HB8 HP8 HQ8
    go_wp2_with fail
    refine (factsBegun_any w9).mono ?_
    rintro e w10 ⟨rfl, hb10⟩
    have HB10 := hide (HB9.out.trans (hb10.mono HB9.out.size))
    obtain ⟨p0, p1, p2, pf⟩ := ft_cells (show w10.heap[p]? = some (ftO ⟨fl, fm, fp⟩) by rw [hb10.block _ (lt_of_block HP9.out)]; exact HP9.out)
    obtain ⟨q0, q1, q2, qf⟩ := ft_cells (show w10.heap[q]? = some (ftO ⟨fl, fm, fp⟩) by rw [hb10.block _ (lt_of_block HQ9.out)]; exact HQ9.out)
    simp only at p0 p1 p2 q0 q1 q2
    clear hb10 HB9 HP9 HQ9
    go_wp2
    go_ret
    exact ⟨by simp, HB10.out⟩
  · have hF := HF0.out hz0
    obtain ⟨rfl, rfl, rfl⟩ : fl = 0 ∧ fm = 0 ∧ fp = false := by injection hF with h1 h2 h3; exact ⟨h1, h2, h3⟩
    have bz : (z == 0) = false := by simpa using hz0
    clear HF0 HF1 hF HPe HWd HPl hz0
    go_wp2_with fail
    refine (factsBegun_any w5).mono ?_
    rintro e w10 ⟨rfl, hb10⟩
    have HB10 := hide (HB5.out.trans (hb10.mono HB5.out.size))
    obtain ⟨p0, p1, p2, pf⟩ := ft_cells (show w10.heap[p]? = some (ftO ⟨0, 0, false⟩) by rw [hb10.block _ (lt_of_block HP5.out)]; exact HP5.out)
    obtain ⟨q0, q1, q2, qf⟩ := ft_cells (show w10.heap[q]? = some (ftO ⟨0, 0, false⟩) by rw [hb10.block _ (lt_of_block HQ5.out)]; exact HQ5.out)
    simp only at p0 p1 p2 q0 q1 q2
    clear hb10 HB5 HP5 HQ5
    go_wp2
    go_ret
    exact ⟨by simp, HB10.out⟩

end Go.Proofs.Ytdipfaahlofmgaa
