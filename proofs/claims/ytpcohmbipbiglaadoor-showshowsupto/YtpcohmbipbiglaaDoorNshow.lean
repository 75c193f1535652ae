/- What Nodes and Check answer, where there are no names. -/
import Derived.Test.YtpcohmbipbiglaaDoorNcheck
import Derived.Deep.RegionWith
namespace Go.Proofs.YtpcohmbipbiglaaDoor
open Go.RowKit
set_option linter.unusedVariables false

theorem NodeC.box {w : World} {n : NV} {t : Tr} (h : NodeC w n t) (o : Obj) : NodeC (w.alloc o) n t := h.keep ((Below.refl _ _).alloc (Nat.le_refl _) _)
set_option maxRecDepth 100000 in
set_option maxHeartbeats 1000000 in
theorem nodes_any (n : NV) (t : Tr) (w : World) (h : NodeC w n t) : Calls Tryd.prog 6 #[nvV n] w fun e w' => e = .returned (.tuple #[.int .i64 (if cntA t < 1001 then (cntA t : Int) else 0), .int .i64 (if cntA t < 1001 then 0 else 2)]) ∧ Below w.heap.size w w' := by
  have hb : Below w.heap.size w (w.alloc (nvO n)) := (Below.refl _ _).alloc (Nat.le_refl _) _
  have HC := hide (count_any n t _ (h.box (nvO n)))
  obtain ⟨w1, hw1⟩ : ∃ w1, w1 = w.alloc (nvO n) := ⟨_, rfl⟩
  have hbox : w1.heap[w.heap.size]? = some (nvO n) := by rw [hw1]; exact at_new _ _
  rw [← hw1] at hb HC
  have HB := hide hb
  obtain ⟨d0, d1, d2, d3, d4, d5, d6, d7⟩ := nv_cells hbox
  simp only [nvO] at hw1
  obtain ⟨a, ha⟩ : ∃ a : Int, a = (if cntA t < 1001 then (cntA t : Int) else 0) := ⟨_, rfl⟩
  obtain ⟨b, hb'⟩ : ∃ b : Int, b = (if cntA t < 1001 then 0 else 2) := ⟨_, rfl⟩
  rw [← ha, ← hb'] at HC ⊢
  clear h hb hbox ha hb'
  go_enter Tryd.func6, Tryd.ntmps6
  go_wp2_with fail
  rw [← hw1]
  clear hw1
  refine HC.out.mono ?_
  rintro e w2 ⟨rfl, hb2⟩
  have HB2 := hide (HB.out.trans (hb2.mono HB.out.size))
  clear hb2 HC
  go_wp2
  go_ret2
  exact ⟨rfl, HB2.out⟩
def checkP (t : Tr) (g : Int) : Int := if cntA t < 1001 then treeE t g else 2
set_option maxRecDepth 100000 in
set_option maxHeartbeats 2000000 in
theorem showCheck_nil (n : NV) (t : Tr) (g : Int) (w : World) (h : NodeC w n t) : Calls Tryd.prog 10 #[patV n g] w fun e w' => e = .returned (.int .i64 (checkP t g)) ∧ Below w.heap.size w w' := by
  have hb : Below w.heap.size w (w.alloc (patO n g)) := (Below.refl _ _).alloc (Nat.le_refl _) _
  have HC := hide (nodes_any n t _ (h.box (patO n g)))
  have HK := hide (fun W (hW : Below w.heap.size w W) (hs : szT t ≤ 1000) => check_nil n t g W (h.keep hW) hs)
  obtain ⟨w1, hw1⟩ : ∃ w1, w1 = w.alloc (patO n g) := ⟨_, rfl⟩
  have hbox : w1.heap[w.heap.size]? = some (patO n g) := by rw [hw1]; exact at_new _ _
  rw [← hw1] at hb HC
  have HB := hide hb
  have HX := hide hbox
  obtain ⟨⟨d0, d1, d2, d3, d4, d5, d6, d7⟩, d8, d9⟩ := pat_cells hbox
  simp only [patO] at hw1
  simp only [patV] at HK ⊢
  have HSz : Hid (cntA t < 1001 → szT t ≤ 1000) := cntA_sz
  have HE : Hid (checkP t g = if cntA t < 1001 then treeE t g else 2) := rfl
  clear h hb hbox
  by_cases hlt : cntA t < 1001
  · have hF : Hid (checkP t g = treeE t g) := by show _ = _; rw [HE.out, if_pos hlt]
    have hs := HSz.out hlt
    rw [if_pos hlt, if_pos hlt] at HC
    obtain ⟨q, hq⟩ : ∃ q, q = cntA t := ⟨_, rfl⟩
    rw [← hq] at HC
    rw [hF.out]
    clear hlt hq HE HSz hF
    go_enter Tryd.func10, Tryd.ntmps10
    go_wp2_with fail
    rw [← hw1]
    clear hw1
    refine HC.out.mono ?_
    rintro e w2 ⟨rfl, hb2⟩
    have HB2 := hide (HB.out.trans (hb2.mono HB.out.size))
    obtain ⟨⟨b0, b1, b2, b3, b4, b5, b6, b7⟩, b8, b9⟩ := pat_cells (show w2.heap[w.heap.size]? = some (patO n g) by rw [hb2.block _ (lt_of_block HX.out)]; exact HX.out)
    clear hb2 HC d0 d1 d2 d3 d4 d5 d6 d7 d8 d9
    go_wp2_with fail
    refine (HK.out w2 HB2.out hs).mono ?_
    rintro e w3 ⟨rfl, hb3⟩
    have HB3 := hide (HB2.out.trans (hb3.mono HB2.out.size))
    clear hb3 b0 b1 b2 b3 b4 b5 b6 b7 b8 b9
    go_wp2
    go_ret
    exact ⟨rfl, HB3.out⟩
  · have hF : Hid (checkP t g = 2) := by show _ = _; rw [HE.out, if_neg hlt]
    rw [if_neg hlt, if_neg hlt] at HC
    rw [hF.out]
    clear hlt HE HSz hF
    go_enter Tryd.func10, Tryd.ntmps10
    go_wp2_with fail
    rw [← hw1]
    clear hw1
    refine HC.out.mono ?_
    rintro e w2 ⟨rfl, hb2⟩
    have HB2 := hide (HB.out.trans (hb2.mono HB.out.size))
    clear hb2 HC d0 d1 d2 d3 d4 d5 d6 d7 d8 d9
    go_wp2
    go_ret
    exact ⟨rfl, HB2.out⟩

end Go.Proofs.YtpcohmbipbiglaaDoor
