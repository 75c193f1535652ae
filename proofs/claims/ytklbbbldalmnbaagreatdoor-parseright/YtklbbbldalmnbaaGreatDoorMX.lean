import Derived.Test.YtklbbbldalmnbaaGreatDoorMP
import Derived.Test.YtklbbbldalmnbaaGreatDoorMW
import Derived.Test.YtklbbbldalmnbaaGreatDoorMQ
namespace Go.Proofs.YtklbbbldalmnbaaGreatDoor.Pa
set_option maxHeartbeats 4000000
open Go.RowKit
open TR (Tr NV NCells nvV nvO NodeC KidsC nv_cells)
set_option linter.unusedVariables false
set_option maxRecDepth 100000
theorem sameSet_nil (w : World) : Calls Tryz.prog 22 #[.slice none 0 0, .slice none 0 0] w fun e w' => e = .returned (.bool true) ∧ w' = w := by
 go_enter Tryz.func22, Tryz.ntmps22
 go_wp2
 go_loopw [5] (fun t wr => t = .int .i64 0 ∧ wr = w) (fun _ _ => 0)
 case atStart => exact ⟨rfl, rfl⟩
 case round =>
  obtain ⟨rfl, rfl⟩ := hrel
  go_wp2
  go_ret
  exact ⟨rfl, rfl⟩
theorem sameNode_nil (w : World) : Calls Tryz.prog 13 #[nvV nodeZ, nvV nodeZ] w fun e w' => e = .returned (.bool true) ∧ Below w.heap.size w w' := by
 obtain ⟨w1, hw1⟩ : ∃ w1, w1 = (w.alloc (nvO nodeZ)).alloc (nvO nodeZ) := ⟨_, rfl⟩
 have hb1 : Below w.heap.size w w1 := by rw [hw1]; exact ((Below.refl _ w).alloc (Nat.le_refl _) _).alloc (by simp) _
 have hM : w1.heap[w.heap.size]? = some (nvO nodeZ) := by rw [hw1]; exact TK.at_old (TK.at_new _ _)
 have hN : w1.heap[w.heap.size + 1]? = some (nvO nodeZ) := by rw [hw1]; exact TK.at_new' _ _ (by simp)
 obtain ⟨d0, d1, d2, d3, d4, d5, d6, d7⟩ := nv_cells hM
 obtain ⟨e0, e1, e2, e3, e4, e5, e6, e7⟩ := nv_cells hN
 have HB := hide hb1
 have HS := hide (sameSet_nil w1)
 have D2 := hide d2
 have E2 := hide e2
 simp only [nodeZ] at d0 d1 d2 d3 d4 d5 d6 d7 e0 e1 e2 e3 e4 e5 e6 e7
 simp only [nvO, nodeZ] at hw1
 simp only [nvV, nodeZ]
 clear hb1 hM hN
 go_enter Tryz.func13, Tryz.ntmps13
 go_wp2_with fail
 rw [← hw1]
 clear hw1
 go_wp2_with fail
 refine HS.out.mono ?_
 rintro e w2 ⟨rfl, rfl⟩
 go_wp2
 go_loopw [5] (fun t wr => t = .int .i64 0 ∧ wr = w2) (fun _ _ => 0)
 case atStart => exact ⟨rfl, rfl⟩
 case round =>
  obtain ⟨rfl, rfl⟩ := hrel
  go_wp2
  go_ret
  exact ⟨rfl, HB.out⟩
theorem samePattern_nil (w : World) : Calls Tryz.prog 14 #[pnV nodeZ 0 (.slice none 0 0), pnV nodeZ 0 (.slice none 0 0)] w fun e w' => e = .returned (.bool true) ∧ Below w.heap.size w w' := by
 obtain ⟨w1, hw1⟩ : ∃ w1, w1 = (w.alloc (pnO nodeZ 0 (.slice none 0 0))).alloc (pnO nodeZ 0 (.slice none 0 0)) := ⟨_, rfl⟩
 have hb1 : Below w.heap.size w w1 := by rw [hw1]; exact ((Below.refl _ w).alloc (Nat.le_refl _) _).alloc (by simp) _
 have hM : w1.heap[w.heap.size]? = some (pnO nodeZ 0 (.slice none 0 0)) := by rw [hw1]; exact TK.at_old (TK.at_new _ _)
 have hN : w1.heap[w.heap.size + 1]? = some (pnO nodeZ 0 (.slice none 0 0)) := by rw [hw1]; exact TK.at_new' _ _ (by simp)
 have HM := hide hM
 have HN := hide hN
 obtain ⟨d0, d1, d2, d3, d4, d5, d6, d7, d8, d9⟩ := pn_cells hM
 obtain ⟨e0, e1, e2, e3, e4, e5, e6, e7, e8, e9⟩ := pn_cells hN
 have HB := hide hb1
 have HS := hide (sameNode_nil w1)
 simp only [nodeZ] at d0 d1 d2 d3 d4 d5 d6 d7 e0 e1 e2 e3 e4 e5 e6 e7
 simp only [pnO, nodeZ] at hw1
 simp only [pnV, nodeZ]
 clear hb1 hM hN
 go_enter Tryz.func14, Tryz.ntmps14
 go_wp2_with fail
 rw [← hw1]
 clear hw1
 go_wp2_with fail
 refine HS.out.mono ?_
 rintro e w2 ⟨rfl, hb2⟩
 obtain ⟨f0, f1, f2, f3, f4, f5, f6, f7, f8, f9⟩ := pn_cells (by rw [hb2.block _ (TR.lt_of_block HM.out)]; exact HM.out : w2.heap[w.heap.size]? = _)
 obtain ⟨g0, g1, g2, g3, g4, g5, g6, g7, g8, g9⟩ := pn_cells (by rw [hb2.block _ (TR.lt_of_block HN.out)]; exact HN.out : w2.heap[w.heap.size + 1]? = _)
 have HB2 := hide (HB.out.trans (hb2.mono HB.out.size))
 clear d0 d1 d2 d3 d4 d5 d6 d7 d8 d9 e0 e1 e2 e3 e4 e5 e6 e7 e8 e9 hb2 HB HM HN HS f0 f1 f2 f3 f4 f5 f6 f7 g0 g1 g2 g3 g4 g5 g6 g7
 go_wp2
 go_loopw [5] (fun t wr => t = .int .i64 0 ∧ wr = w2) (fun _ _ => 0)
 case atStart => exact ⟨rfl, rfl⟩
 case round =>
  obtain ⟨rfl, rfl⟩ := hrel
  go_wp2
  go_ret
  exact ⟨rfl, HB2.out⟩
end Go.Proofs.YtklbbbldalmnbaaGreatDoor.Pa
namespace Go.Proofs.YtklbbbldalmnbaaGreatDoor.Pa
set_option maxHeartbeats 8000000
open Go.RowKit
open TR (Tr NV NCells nvV nvO NodeC KidsC PatE)
open TK (Mv PatV)
open Br (BE PS givesF fauO fau_cells)
set_option linter.unusedVariables false
set_option maxRecDepth 100000
theorem right_walk (d : Int) (fo : Bool) (v : Value) (l : List Int) (w : World) (hT : Fo.Tab w) (hpos : 3 < w.heap.size) (h : PatV w v l) (hl : l.length ≤ 9223372036854775807) : Calls Tryz.prog 5 #[.int .i64 d, v, .bool fo] w fun e w' => e = .returned (.bool true) ∧ Below w.heap.size w w' := by
 have HP := hide (parseBegun_fn w hT hpos)
 have HX : Hid (∀ w1, Below w.heap.size w w1 → Calls Tryz.prog 11 #[.int .i64 d, v, .bool fo] w1 fun e w' => OutR (patM bigB d fo l) w1 e w') := fun w1 hb => parse_fn fo (h.below hb) (hT.below hb hpos) (Nat.lt_of_lt_of_le hpos hb.size)
 obtain ⟨ao, ac, hv⟩ := h.shape
 obtain ⟨ll, hll⟩ : ∃ ll, ll = l.length := ⟨_, rfl⟩
 have HL := hide hll
 rw [← hll] at hv hl
 rw [hv] at HX ⊢
 clear h hT hpos hll hv
 go_enter Tryz.func5, Tryz.ntmps5
 go_wp2_with fail
 refine HP.out.mono ?_
 rintro e w1 ⟨rfl, hb1⟩
 have HX1 := hide (HX.out w1 hb1)
 have HB1 := hide hb1
 clear hb1 HX HP
 go_wp2_with fail
 refine HX1.out.mono ?_
 rintro e w2 (⟨p, n, x, hR, rfl, hnc, hb2⟩ | ⟨z, a, hR, rfl, hb2⟩)
 ·obtain ⟨gr, hgr⟩ : ∃ gr : Int, gr = (p.groups : Nat) := ⟨_, rfl⟩
  have hnc2 := hnc w2 (fun _ _ _ => rfl)
  obtain ⟨xo, xc, hxv⟩ := hnc2.2.shape
  obtain ⟨xl, hxl⟩ : ∃ xl, xl = p.names.length := ⟨_, rfl⟩
  rw [← hxl] at hxv
  rw [← hgr]
  subst hxv
  obtain ⟨w3, hw3⟩ : ∃ w3, w3 = (w2.alloc (pnO n gr (.slice xo xl xc))).alloc (fauO 0 0) := ⟨_, rfl⟩
  have hb3 : Below w2.heap.size w2 w3 := by rw [hw3]; exact ((Below.refl _ w2).alloc (Nat.le_refl _) _).alloc (by simp) _
  have hN3 : w3.heap[w2.heap.size]? = some (pnO n gr (.slice xo xl xc)) := by rw [hw3]; exact TK.at_old (TK.at_new _ _)
  have hF3 : w3.heap[w2.heap.size + 1]? = some (fauO 0 0) := by rw [hw3]; exact TK.at_new' _ _ (by simp)
  have HC := hide (TR.showCheck_any n p.tree gr xo xl xc p.names w3 (hnc2.1.keep hb3) (hnc2.2.below hb3))
  have HE : Hid (PatE p.tree gr p.names 0) := by show PatE _ _ _ _; rw [hgr]; exact pat_ok hR
  have HB3 := hide ((HB1.out.trans (hb2.mono HB1.out.size)).trans (hb3.mono (Nat.le_trans HB1.out.size hb2.size)))
  simp only [pnO, fauO] at hw3
  obtain ⟨y0, y1, y2, y3, y4, y5, y6, y7, y8, y9⟩ := pn_cells hN3
  obtain ⟨ck, ck2, fk⟩ := fau_cells hF3
  simp only [pnV]
  clear hnc hnc2 hb2 hb3 HX1 hN3 hF3 hR hgr hxl HB1
  go_upto_region 2 with fail
  rw [← hw3]
  clear hw3
  go_wp2_with fail
  refine HC.out.mono ?_
  rintro e w4 ⟨z, hz, rfl, hb4⟩
  obtain rfl : z = 0 := hz.one HE.out
  have HB4 := hide (HB3.out.trans (hb4.mono HB3.out.size))
  clear hz hb4 y0 y1 y2 y3 y4 y5 y6 y7 y8 y9 ck ck2 fk HC
  go_wp2
  go_ret
  exact ⟨rfl, HB4.out⟩
 ·obtain ⟨hz, ha0, ha1⟩ := pat_at hR
  obtain ⟨w3, hw3⟩ : ∃ w3, w3 = (w2.alloc (pnO nodeZ 0 (.slice none 0 0))).alloc (fauO z a) := ⟨_, rfl⟩
  have hb3 : Below w2.heap.size w2 w3 := by rw [hw3]; exact ((Below.refl _ w2).alloc (Nat.le_refl _) _).alloc (by simp) _
  have hN3 : w3.heap[w2.heap.size]? = some (pnO nodeZ 0 (.slice none 0 0)) := by rw [hw3]; exact TK.at_old (TK.at_new _ _)
  have hF3 : w3.heap[w2.heap.size + 1]? = some (fauO z a) := by rw [hw3]; exact TK.at_new' _ _ (by simp)
  have HC := hide (samePattern_nil w3)
  have HF3 := hide hF3
  have HB3 := hide ((HB1.out.trans (hb2.mono HB1.out.size)).trans (hb3.mono (Nat.le_trans HB1.out.size hb2.size)))
  simp only [pnO, fauO, nodeZ] at hw3
  obtain ⟨y0, y1, y2, y3, y4, y5, y6, y7, y8, y9⟩ := pn_cells hN3
  obtain ⟨ck, ck2, fk⟩ := fau_cells hF3
  simp only [nodeZ] at y0 y1 y2 y3 y4 y5 y6 y7
  simp only [pnV, nodeZ]
  simp only [pnV, nodeZ] at HC
  have q1 : (z == 0) = false := by simpa using hz
  have ha2 : a ≤ (ll : Int) := by have := HL.out; omega
  clear hb2 hb3 HX1 hN3 hF3 hR HB1 ha1
  go_upto_region 2 with fail
  rw [← hw3]
  clear hw3
  go_wp2_with fail
  refine HC.out.mono ?_
  rintro e w4 ⟨rfl, hb4⟩
  have hF4 : w4.heap[w2.heap.size + 1]? = some (fauO z a) := by rw [hb4.block _ (TR.lt_of_block HF3.out)]; exact HF3.out
  clear ck ck2 fk
  obtain ⟨ck, ck2, fk⟩ := fau_cells hF4
  have HB4 := hide (HB3.out.trans (hb4.mono HB3.out.size))
  clear hF4 hb4 y0 y1 y2 y3 y4 y5 y6 y7 y8 y9 HC
  go_wp2
  go_ret
  exact ⟨by simp, HB4.out⟩
end Go.Proofs.YtklbbbldalmnbaaGreatDoor.Pa
