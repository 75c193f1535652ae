/- What showBegun answers. -/
import Derived.Test.YtpcohmbipbiglaaDoorWadd
namespace Go.Proofs.YtpcohmbipbiglaaDoor
open Go.RowKit
set_option linter.unusedVariables false

abbrev atomV (k : Int) : NV := ⟨k, none, 0, 0, none, 0, 0, 0, 0, 0, 0, false⟩
abbrev atomT (k : Int) : Tr := .mk k 0 0 0 0 false [] []
theorem atomN (k : Int) (w : World) : NodeC w (atomV k) (atomT k) :=
  .mk (atomV k) [] [] (fun _ => atomV 0) (.inl ⟨rfl, rfl⟩) (.inl ⟨rfl, rfl, rfl, rfl⟩) (fun j hj => by simp at hj)
theorem WB.keep {B b : Nat} {p nm : Value} {bs : List Value} {w w' : World} (h : WB B b p bs nm w) (hb : Below w.heap.size w w') : WB B b p bs nm w' := by
  obtain ⟨h1, v, h2, h3, h4⟩ := h
  exact ⟨h1, v, by rw [hb.block _ (lt_of_block h2)]; exact h2, own_keep h3 hb, h4⟩
theorem WBs.keep {B b : Nat} {nm : Value} {bs : List Value} {w w' : World} (h : WBs B b bs nm w) (hb : Below w.heap.size w w') : WBs B b bs nm w' := by
  rcases h with h | h
  · exact .inl (h.keep hb)
  · exact .inr (h.keep hb)
theorem sign3 (w : World) : Calls Tryd.prog 41 #[.int .i64 3] w fun e w' => e = .returned (.string ⟨#[94]⟩) ∧ w' = w := by
  go_enter Tryd.func41, Tryd.ntmps41
  go_wp2
  go_ret
  exact ⟨rfl, rfl⟩
set_option maxRecDepth 100000 in
set_option maxHeartbeats 2000000 in
theorem node3_any (B b : Nat) (bs : List Value) (nm : Value) (w : World) (h : WBs B b bs nm w) (hlen : bs.length ≤ 1000000) (hBw : B ≤ w.heap.size) :
    Calls Tryd.prog 20 #[.pointer (some ⟨b, 0, none⟩), nvV (atomV 3)] w fun e w' => e = .returned (.tuple #[]) ∧ WB B b (.pointer (some ⟨b, 0, none⟩)) (bs ++ Lib.strCells ⟨#[94]⟩) nm w' ∧ Below B w w' := by
  obtain ⟨w1, hw1⟩ : ∃ w1, w1 = w.alloc (nvO (atomV 3)) := ⟨_, rfl⟩
  have hX1 : w1.heap[w.heap.size]? = some (nvO (atomV 3)) := by rw [hw1]; exact at_new _ _
  have hb1 : Below w.heap.size w w1 := by rw [hw1]; exact (Below.refl _ w).alloc (Nat.le_refl _) _
  obtain ⟨w2, hw2⟩ : ∃ w2, w2 = w1.alloc (.cells #[.string ⟨#[94]⟩] 9) := ⟨_, rfl⟩
  have hX2 : w2.heap[w1.heap.size]? = some (.cells #[.string ⟨#[94]⟩] 9) := by rw [hw2]; exact at_new _ _
  have hb2 : Below w1.heap.size w1 w2 := by rw [hw2]; exact (Below.refl _ w1).alloc (Nat.le_refl _) _
  have hs1 := hb1.size
  have HA := hide (add1_any B b bs nm ⟨#[94]⟩ w1.heap.size w2 ((h.keep hb1).keep hb2) (by simp [World.cell?, hX2]) (by have : (ByteArray.mk #[94]).size = 1 := rfl; omega) (by have := hb2.size; omega))
  have HB2 := hide (show Below B w w2 from (hb1.mono hBw).trans (hb2.mono (by omega)))
  obtain ⟨d0, d1, d2, d3, d4, d5, d6, d7⟩ := nv_cells hX1
  simp only [nvO] at hw1
  clear h hlen hb1 hb2 hX1 hX2 hs1
  go_enter Tryd.func20, Tryd.ntmps20
  go_upto_region 1 with fail
  rw [← hw1]
  clear hw1
  go_wp2_with fail
  refine (sign3 _).mono ?_
  rintro e w' ⟨rfl, hh⟩
  subst hh
  go_wp2_with fail
  rw [← hw2]
  clear hw2
  refine HA.out.mono ?_
  rintro e w3 ⟨rfl, hW, hb3⟩
  have HW := hide hW
  have HB3 := hide (HB2.out.trans hb3)
  clear hW hb3 HA HB2 d0 d1 d2 d3 d4 d5 d6 d7
  go_wp2
  go_end0
  exact ⟨rfl, HW.out, HB3.out⟩
theorem line_ok : checkP (atomT 3) 0 = 0 := by decide
set_option maxRecDepth 100000 in
set_option maxHeartbeats 2000000 in
theorem show3_any (w : World) : Calls Tryd.prog 12 #[patV (atomV 3) 0] w fun e w' => e = .returned (.tuple #[.string ⟨#[94]⟩, .int .i64 0]) ∧ Below w.heap.size w w' := by
  obtain ⟨w1, hw1⟩ : ∃ w1, w1 = w.alloc (patO (atomV 3) 0) := ⟨_, rfl⟩
  have hX1 : w1.heap[w.heap.size]? = some (patO (atomV 3) 0) := by rw [hw1]; exact at_new _ _
  have hb1 : Below w.heap.size w w1 := by rw [hw1]; exact (Below.refl _ w).alloc (Nat.le_refl _) _
  have HC := hide (showCheck_nil (atomV 3) (atomT 3) 0 w1 (atomN 3 w1))
  rw [line_ok] at HC
  have HB1 := hide hb1
  have HX1 := hide hX1
  obtain ⟨⟨d0, d1, d2, d3, d4, d5, d6, d7⟩, d8, d9⟩ := pat_cells hX1
  simp only [patO] at hw1
  simp only [patV] at HC ⊢
  clear hb1 hX1
  go_enter Tryd.func12, Tryd.ntmps12
  go_upto_region 1 with fail
  rw [← hw1]
  clear hw1
  go_wp2_with fail
  refine HC.out.mono ?_
  rintro e w2 ⟨rfl, hb2⟩
  have HB2 := hide (HB1.out.trans (hb2.mono HB1.out.size))
  have HX2 := hide (show w2.heap[w.heap.size]? = some (patO (atomV 3) 0) by rw [hb2.block _ (lt_of_block HX1.out)]; exact HX1.out)
  clear hb2 HC HB1 HX1 d0 d1 d2 d3 d4 d5 d6 d7 d8 d9
  obtain ⟨⟨d0, d1, d2, d3, d4, d5, d6, d7⟩, d8, d9⟩ := pat_cells HX2.out
  obtain ⟨w3, hw3⟩ : ∃ w3, w3 = w2.alloc (.cells #[.pointer none, .slice none 0 0, .slice none 0 0] 53) := ⟨_, rfl⟩
  have hK3 : w3.heap[w2.heap.size]? = some (.cells #[.pointer none, .slice none 0 0, .slice none 0 0] 53) := by rw [hw3]; exact at_new _ _
  have hb3 : Below w2.heap.size w2 w3 := by rw [hw3]; exact (Below.refl _ w2).alloc (Nat.le_refl _) _
  have hW3 : WBs w2.heap.size w2.heap.size [] (.slice none 0 0) w3 := .inl ⟨Nat.le_refl _, _, hK3, World.ownsRow_nil _ _ _ _, by simp [Value.ownBlock]⟩
  have HN := hide (node3_any w2.heap.size w2.heap.size [] (.slice none 0 0) w3 hW3 (by simp) hb3.size)
  have HX3 := hide (show w3.heap[w.heap.size]? = some (patO (atomV 3) 0) by rw [hb3.block _ (lt_of_block HX2.out)]; exact HX2.out)
  have HB3 := hide hb3
  obtain ⟨b, hb⟩ : ∃ b, b = w2.heap.size := ⟨_, rfl⟩
  rw [← hb] at HN HB3
  have hwb : w.heap.size ≤ b := by rw [hb]; exact HB2.out.size
  clear hb3 hW3 hK3 d0 d1 d2 d3 d4 d5 d6 d7 d8
  go_upto_region 5 with fail
  rw [← hw3, ← hb]
  clear hw3 hb
  obtain ⟨⟨d0, d1, d2, d3, d4, d5, d6, d7⟩, d8, d9⟩ := pat_cells HX3.out
  simp only [nvV] at HN
  go_wp2_with fail
  refine HN.out.mono ?_
  rintro e w4 ⟨rfl, hW4, hb4⟩
  have HS := hide (bstr_any b b _ _ [94] w4 (show WB b b (.pointer (some ⟨b, 0, none⟩)) (Lib.byteCells [94]) (.slice none 0 0) w4 from hW4) (by simp))
  have HB4 := hide (show Below w.heap.size w w4 from HB2.out.trans ((HB3.out.trans hb4).mono hwb))
  clear hW4 hb4 HN d0 d1 d2 d3 d4 d5 d6 d7 d8 d9
  go_wp2_with fail
  refine HS.out.mono ?_
  rintro e w5 ⟨rfl, hb5⟩
  have HB5 := hide (show Below w.heap.size w w5 from HB4.out.trans (hb5.mono hwb))
  clear hb5 HS
  go_wp2
  go_ret2
  exact ⟨rfl, HB5.out⟩
theorem empty_cnt : cntA (atomT 1) = 1 := by decide
set_option maxRecDepth 100000 in
set_option maxHeartbeats 2000000 in
theorem showBegun_any (w : World) : Calls Tryd.prog 8 #[] w fun e w' => e = .returned (.bool true) ∧ Below w.heap.size w w' := by
  have HS := hide (show3_any w)
  have HN := hide (fun W => nodes_any (atomV 1) (atomT 1) W (atomN 1 W))
  rw [empty_cnt] at HN
  simp only [patV] at HS
  simp only [nvV] at HN
  go_enter Tryd.func8, Tryd.ntmps8
  go_wp2_with fail
  refine HS.out.mono ?_
  rintro e w2 ⟨rfl, hb2⟩
  have HB2 := hide hb2
  clear hb2 HS
  go_wp2_with fail
  refine (HN.out w2).mono ?_
  rintro e w3 ⟨rfl, hb3⟩
  have HB3 := hide (HB2.out.trans (hb3.mono HB2.out.size))
  clear hb3 HN
  go_wp2
  go_ret
  exact ⟨rfl, HB3.out⟩

end Go.Proofs.YtpcohmbipbiglaaDoor
